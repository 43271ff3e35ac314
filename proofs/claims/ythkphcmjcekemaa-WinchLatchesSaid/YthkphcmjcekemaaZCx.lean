/-
  The clean machine and the model: a region that draws its order, walked.
-/
import Derived.Test.YthkphcmjcekemaaZCw
set_option linter.all false
namespace Go.Proofs.Ythkphcmjcekemaa.Cm
open Go Go.RowKit
variable [Env]

section
variable {P : Program} {run : Runs} {ops : Array Oper} {s s' : St} {σ : Nat → St} {D : Nat → Did} {bf : Nat → Nat → Prop}
theorem vC_any {h h' : CH} {lw : Nat} {oc : Option CV} {c : CV} (e : vC h oc = some (c, h', lw)) : h' = h ∧ lw = h.n ∧ ∀ h2 : CH, vC h2 oc = some (c, h2, h2.n) := by
  obtain ⟨e1, e2, e3⟩ := vC_inv e
  exact ⟨e2, e3, fun h2 => by rw [e1]; rfl⟩
theorem silent_val {op : Op} {ts : Tr CV} (hs : silent op = true) : ∃ oc, ∀ h, opC P run op ts h = vC h oc := by
  cases op with
  | move x => exact ⟨argC ts x, fun h => rfl⟩
  | assign x => exact ⟨argC ts x, fun h => rfl⟩
  | unOp o t x => exact ⟨_, fun h => rfl⟩
  | convert a b x => exact ⟨_, fun h => rfl⟩
  | fieldAddr a x f => exact ⟨_, fun h => rfl⟩
  | field a x f => exact ⟨_, fun h => rfl⟩
  | pick k x y =>
    cases hc : argC ts k with
    | none => exact ⟨none, fun h => by simp only [opC, hc] <;> rfl⟩
    | some c => cases c with
      | bool b => exact ⟨bif b then argC ts x else argC ts y, fun h => by simp only [opC, hc]⟩
      | _ => exact ⟨none, fun h => by simp only [opC, hc] <;> rfl⟩
  | build t ps =>
    cases hc : partsC ts ps.toList with
    | none => exact ⟨none, fun h => by simp only [opC, hc] <;> rfl⟩
    | some l => exact ⟨buildC P t l, fun h => by simp only [opC, hc]⟩
  | nilCheck x =>
    cases hc : argC ts x with
    | none => exact ⟨none, fun h => by simp only [opC, hc] <;> rfl⟩
    | some c => cases c with
      | ptr b o => exact ⟨some (.ptr b o), fun h => by simp only [opC, hc]⟩
      | fn f l m => exact ⟨some (.fn f l m), fun h => by simp only [opC, hc]⟩
      | yield b => exact ⟨some (.yield b), fun h => by simp only [opC, hc]⟩
      | gp b k x z d => exact ⟨some (.gp b k x z d), fun h => by simp only [opC, hc]⟩
      | _ => exact ⟨none, fun h => by simp only [opC, hc] <;> rfl⟩
  | binOp o t x y z =>
    cases hx : argC ts x with
    | none => exact ⟨none, fun h => by simp only [opC, hx] <;> rfl⟩
    | some cx => cases hy : argC ts y with
      | none => exact ⟨none, fun h => by simp only [opC, hx, hy] <;> rfl⟩
      | some cy => exact ⟨binC P o t cx cy, fun h => by simp only [opC, hx, hy]⟩
  | indexAddr t x y =>
    cases hx : argC ts x with
    | none => exact ⟨none, fun h => by simp only [opC, hx] <;> rfl⟩
    | some cx => cases hy : argC ts y with
      | none => exact ⟨none, fun h => by simp only [opC, hx, hy] <;> rfl⟩
      | some cy => exact ⟨indexAddrC P t cx cy, fun h => by simp only [opC, hx, hy]⟩
  | index t x y =>
    cases hx : argC ts x with
    | none => exact ⟨none, fun h => by simp only [opC, hx] <;> rfl⟩
    | some cx => cases hy : argC ts y with
      | none => exact ⟨none, fun h => by simp only [opC, hx, hy] <;> rfl⟩
      | some cy => exact ⟨indexC P t cx cy, fun h => by simp only [opC, hx, hy]⟩
  | makeFunc f a b =>
    cases f with
    | func f =>
      cases hx : argsC ts a.toList with
      | none => exact ⟨none, fun h => by simp only [opC, hx] <;> rfl⟩
      | some cx => cases hy : argsC ts b.toList with
        | none => exact ⟨none, fun h => by simp only [opC, hx, hy] <;> rfl⟩
        | some cy => exact ⟨some (.fn f cx cy), fun h => by simp only [opC, hx, hy]⟩
    | _ => exact ⟨none, fun h => rfl⟩
  | extract x i =>
    cases hc : argC ts x with
    | none => exact ⟨none, fun h => by simp only [opC, hc] <;> rfl⟩
    | some c => cases c with
      | tup l => exact ⟨l[i]?, fun h => by simp only [opC, hc]⟩
      | _ => exact ⟨none, fun h => by simp only [opC, hc] <;> rfl⟩
  | call k =>
    obtain ⟨callee, args, atys⟩ := k
    cases hc : argsC ts args.toList with
    | none => exact ⟨none, fun h => by simp only [opC, hc] <;> rfl⟩
    | some l => cases callee with
      | value f => simp [silent] at hs
      | invoke a b => simp [silent] at hs
      | builtin b => cases b with
        | min => exact ⟨minC false l, fun h => by simp only [opC, hc]⟩
        | max => exact ⟨minC true l, fun h => by simp only [opC, hc]⟩
        | _ => simp [silent] at hs
  | _ => simp [silent] at hs
theorem silent_any {op : Op} {ts : Tr CV} {h h' : CH} {c : CV} {lw : Nat} (hs : silent op = true) (e : opC P run op ts h = some (c, h', lw)) : h' = h ∧ lw = h.n ∧ ∀ h2 : CH, opC P run op ts h2 = some (c, h2, h2.n) := by
  obtain ⟨oc, ho⟩ := silent_val (P := P) (run := run) (ts := ts) hs
  rw [ho h] at e
  obtain ⟨e1, e2, e3⟩ := vC_any e
  exact ⟨e1, e2, fun h2 => by rw [ho h2]; exact e3 h2⟩
variable {φ φ' : Phi} {w w' : World} {a a' : Act} {listed : Array Bool} {m : Nat}
theorem mem_opTmps {t : Tmp} : ∀ {l : List Operand}, Operand.tmp t ∈ l → t ∈ opTmps l
  | [], h => by cases h
  | x :: l, h => by
    rcases List.mem_cons.1 h with e | h2
    · subst e; exact List.mem_cons_self
    · have ih := mem_opTmps h2
      cases x <;> simp [opTmps, ih]
theorem rdy_evl {nt : Nat} (T : Trace P run ops s s' σ D) (hkp : RunKp run) (W : Drawn ops nt D bf) (I : Inv ops σ D φ w a s s' listed m φ' a' w') {i : Nat} {o : Oper} (R : Rdy ops listed i o) : EvL (φ'.cut (σ i).h.n) (σ i).ts a' o.op.operands.toList := by
  intro x hx c e
  cases x with
  | tmp t =>
    have hm : t ∈ namesC ops o := by unfold namesC; simp [mem_opTmps hx]
    obtain ⟨c0, e0, e1⟩ := Option.bind_eq_some_iff.1 e
    obtain ⟨v, hv, hr⟩ := slot_read T hkp W I R hm c0 e0
    have : a'.eval (.tmp t) = v := by show a'.tmps.getD t undef = v; simp [hv]
    rw [this]; exact useC_rel hr e1
  | const v => exact ofV_rel e
  | global g => cases e
  | func f => injection e with e; subst e; exact .fn .nil .nil
theorem put_val {s0 : St} {o : Oper} {c : CV} {nt : Nat} (hnt : s0.nt = nt) (hd : ∀ d, o.dst = some d → d < nt) : ∀ d, o.dst = some d → ∀ c', (putC s0 o.dst c).ts.get d = some c' → c' = c := by
  intro d h c' e
  rw [h, putC_own s0 d c (by rw [hnt]; exact hd d h)] at e
  injection e with e; exact e.symm
theorem drawn_step {F : Fence} (hF : FW F) (hrun : RunsOk P run) {n : Nat} {nt : Nat} (T : Trace P run ops s s' σ D) (hkp : RunKp run) (hwf : ∀ b, (σ 0).h.n ≤ b → (σ 0).h.get b = none) (W : Drawn ops nt D bf) (I : Inv ops σ D φ w a s s' listed m φ' a' w') (hnt : s.nt = nt) {i : Nat} {o : Oper} (R : Rdy ops listed i o)
    {K : Act → World → Prop} {Q : Exit → Act → World → Prop} (hk : ∀ m' φ'' a'' w'', Inv ops σ D φ w a s s' (listed.setIfInBounds i true) m' φ'' a'' w'' → K a'' w'') : wpOpIn F n P ops Q i K a' w' := by
  have hi := R.lt
  obtain ⟨b, hst, hDi⟩ := T.st i o R.get
  have hnti : (σ i).nt = nt := by rw [(T.mono hkp (i := 0) (j := i) (by omega) (by omega)).2.2.1, T.s0, hnt]
  have hrm : HR φ' (σ m).h w' := by
    have := I.hr m (Nat.le_refl _) (fun j h1 h2 => by omega)
    rwa [Phi.cut_eq I.dom] at this
  have hcutlt : ∀ k b p, (φ'.cut k) b = some p → b < k := fun k b p e => (Phi.cut_some.1 e).1
  unfold wpOpIn
  simp only [R.get]
  unfold stepC at hst
  split at hst
  · -- it is wanted
    rename_i hw
    rw [wanted_rel (φ := φ'.cut (σ i).h.n) (fun d c ⟨j, wt, h1, h2⟩ h3 => slot_read T hkp W I R (by unfold namesC; rw [h1]; simp [h2]) c h3) hw, if_pos rfl]
    split at hst
    · rename_i c h b' hop
      injection hst with hst; injection hst with e1 e2
      subst e2
      have hh : (σ (i + 1)).h = h ∧ (σ (i + 1)).lw = min (σ i).lw b' := by
        rw [← e1]; obtain ⟨q1, q2, _⟩ := putC_h { (σ i) with h := h, lw := min (σ i).lw b' } o.dst c; exact ⟨q1, q2⟩
      have hval : ∀ d, o.dst = some d → ∀ c', (σ (i + 1)).ts.get d = some c' → c' = c := by
        rw [← e1]; exact put_val (s0 := { (σ i) with h := h, lw := min (σ i).lw b' }) hnti (fun d hd => W.dst i o d R.get hd)
      have hev := rdy_evl T hkp W I R
      cases hDD : D i with
      | wrote =>
        -- a writer: it is the next one
        have him : i = m := by
          have h1 := (I.wr i hi hDD)
          have h2 : ¬ i < m := fun h => R.un (h1.2 h)
          rcases Nat.lt_or_ge m i with h | h
          · rcases I.m_wr with e | e
            · omega
            · rcases W.pair i m h hi with h3 | h3
              · rw [e, hDD] at h3; cases h3
              · rcases bf_listed W I R h3 with h4 | h4
                · omega
                · exact absurd ((I.wr m (by omega) e).1 h4) (by omega)
          · omega
        subst him
        rw [Phi.cut_eq I.dom] at hev
        refine op_in hF hrun hop hrm hev K Q fun φ'' v w'' g1 g2 g3 => ?_
        have hlw : s'.lw ≤ b' := by
          have := (T.mono hkp (i := i + 1) (j := ops.size) (by omega) (Nat.le_refl _)).2.1
          rw [T.sN, hh.2] at this
          omega
        rw [← hh.1] at g2
        obtain ⟨m', hI⟩ := adv_write T hkp hwf W I hnt R hDD hlw g1 g2 (val := v) (fun d hd c' hc => by rw [hval d hd c' hc]; exact g3)
        exact hk m' φ'' _ w'' hI
      | none =>
        -- silent
        have hsil : silent o.op = true ∧ ¬ b' < (σ i).h.n := by
          rw [hDD] at hDi
          unfold didOf at hDi
          cases hq : Nat.blt b' (σ i).h.n with
          | true => rw [hq] at hDi; cases hDi
          | false =>
            rw [hq] at hDi
            cases hs : silent o.op with
            | false => rw [hs] at hDi; cases hDi
            | true => exact ⟨rfl, fun h => by
                have := Nat.ble_eq_true_of_le h
                rw [show Nat.blt b' (σ i).h.n = Nat.ble (b' + 1) (σ i).h.n from rfl] at hq
                rw [hq] at this; cases this⟩
        obtain ⟨k1, k2, k3⟩ := silent_any hsil.1 hop
        have hop0 := k3 ⟨(σ i).h.n, .e⟩
        have hr0 : HR (φ'.cut (σ i).h.n) ⟨(σ i).h.n, .e⟩ w' := ⟨(fun b o p e _ => by cases e), (fun b b' o o' p p' e => by cases e), fun b p e => ⟨hcutlt _ b p e, (hrm.lt b p (Phi.cut_le _ _ b p e)).2⟩, fun b _ => rfl⟩
        refine op_in hF hrun hop0 hr0 hev K Q fun φ1 v w1 g1 g2 g3 => hk m φ' _ w1 ?_
        have hback : φ1.le (φ'.cut (σ i).h.n) := fun b p e => by
          rcases g1.new b p e with h | ⟨h, _⟩
          · exact h
          · have := (g2.lt b p e).1
            exact absurd this (by simpa using h)
        have hfr : ∀ r, r < w'.heap.size → w1.heap[r]? = w'.heap[r]? := fun r hr => g1.fr r hr fun b p hb e => absurd (hcutlt _ b p e) (by simpa using hb)
        have hn : (σ (i + 1)).h.n = (σ i).h.n := by rw [hh.1, k1]
        exact adv_pure T hkp W I hnt R (by rw [hDD]; simp) (Phi.le_refl _) (fun x p h => .inl h) g1.os g1.tape g1.output g1.size hfr (fun k _ hkm hs => (I.hr k hkm hs).still g1.size hfr) I.dom
          (fun d hd c' hc => by rw [hval d hd c' hc, hn]; exact g3.mono hback)
      | looked =>
        have hb' : ¬ b' < (σ i).h.n := by
          intro h
          have := did_wrote (o := o) (n := (σ i).h.n) (b := b')
          rw [← hDi, hDD] at this
          exact absurd (this.2 h) (by simp)
        have him : i < m := by
          rcases Nat.lt_or_ge i m with h | h
          · exact h
          · rcases I.m_wr with e | e
            · omega
            · have hne : i ≠ m := fun h => by rw [h, e] at hDD; cases hDD
              rcases W.pair i m (by omega) hi with h3 | h3
              · rw [e, hDD] at h3; cases h3
              · rcases bf_listed W I R h3 with h4 | h4
                · omega
                · exact absurd ((I.wr m (by omega) e).1 h4) (by omega)
        have hno : ∀ j, i ≤ j → j < m → D j ≠ .wrote := fun j h1 h2 hd => by
          have hl := (I.wr j (by have := I.m_le; omega) hd).2 h2
          have hji : j ≠ i := fun e => R.un (e ▸ hl)
          rcases W.pair j i (by omega) (by have := I.m_le; omega) with h3 | h3
          · rw [hd, hDD] at h3; cases h3
          · exact R.un (bf_down W I hl h3)
        have hri := I.hr i (by omega) hno
        refine op_in hF hrun hop hri hev K Q fun φ1 v w1 g1 g2 g3 => ?_
        rw [← hh.1] at g2
        have hfr : ∀ r, r < w'.heap.size → w1.heap[r]? = w'.heap[r]? := fun r hr => g1.fr r hr fun b p hb e => absurd (hcutlt _ b p e) (by omega)
        have hn1 := (T.mono hkp (i := i) (j := i + 1) (by omega) (by omega)).1
        have hlow : ∀ x p, φ1 x = some p → x < (σ i).h.n → φ' x = some p := fun x p e hx => by
          rcases g1.new x p e with h | ⟨h, _⟩
          · exact Phi.cut_le _ _ x p h
          · omega
        have hhigh : ∀ x p, φ1 x = some p → (σ i).h.n ≤ x → w'.heap.size ≤ p.r := fun x p e hx => by
          rcases g1.new x p e with h | ⟨_, h | ⟨b0, p0, h1, h2, _⟩⟩
          · exact absurd (hcutlt _ x p h) (by omega)
          · exact h
          · exact absurd (hcutlt _ b0 p0 h2) (by omega)
        have hnone : ∀ x, (σ i).h.n ≤ x → x < (σ (i + 1)).h.n → φ' x = none := I.own i hi R.un
        obtain ⟨φ'', hφ⟩ : ∃ φ'' : Phi, φ'' = fun x => if (σ i).h.n ≤ x ∧ x < (σ (i + 1)).h.n then φ1 x else φ' x := ⟨_, rfl⟩
        have hin : ∀ x, (σ i).h.n ≤ x → x < (σ (i + 1)).h.n → φ'' x = φ1 x := fun x h1 h2 => by rw [hφ]; exact if_pos ⟨h1, h2⟩
        have hout : ∀ x, ¬ ((σ i).h.n ≤ x ∧ x < (σ (i + 1)).h.n) → φ'' x = φ' x := fun x h => by rw [hφ]; exact if_neg h
        have hle : φ'.le φ'' := fun x p e => by
          by_cases h : (σ i).h.n ≤ x ∧ x < (σ (i + 1)).h.n
          · rw [hnone x h.1 h.2] at e; cases e
          · rw [hout x h]; exact e
        have hle1 : φ1.le φ'' := fun x p e => by
          have hx := (g2.lt x p e).1
          by_cases h : (σ i).h.n ≤ x
          · rw [hin x h hx]; exact e
          · rw [hout x (fun h' => h h'.1)]; exact hlow x p e (by omega)
        have hle1c : ∀ k, i < k → k ≤ ops.size → φ1.le (φ''.cut (σ k).h.n) := fun k h1 h2 x p e => Phi.cut_some.2 ⟨by have := (g2.lt x p e).1; have := (T.mono hkp (i := i + 1) (j := k) (by omega) h2).1; omega, hle1 x p e⟩
        refine hk m φ'' _ w1 (adv_pure T hkp W I hnt R (by rw [hDD]; simp) hle (fun x p e => ?_) g1.os g1.tape g1.output g1.size hfr (fun k h1 h2 h3 => ?_) (fun x p e => ?_) (fun d hd c' hc => by rw [hval d hd c' hc]; exact g3.mono (hle1c (i + 1) (by omega) (by omega))))
        · by_cases h : (σ i).h.n ≤ x ∧ x < (σ (i + 1)).h.n
          · rw [hin x h.1 h.2] at e
            exact .inr ⟨h.1, h.2, hhigh x p e h.1⟩
          · rw [hout x h] at e; exact .inl e
        · -- the heap from here on
          have hk := I.hr k h2 h3
          have hkN : k ≤ ops.size := Nat.le_trans h2 I.m_le
          have hseg := T.seg hkp (i := i + 1) (j := k) (by omega) hkN (fun j g4 g5 => hno j (by omega) (by omega))
          have hmono := (T.mono hkp (i := i + 1) (j := k) (by omega) hkN).1
          have hcl : (φ'.cut (σ k).h.n).le (φ''.cut (σ k).h.n) := Phi.cut_cut hle (Nat.le_refl _)
          have cls : ∀ x p, (φ''.cut (σ k).h.n) x = some p → ((σ i).h.n ≤ x ∧ x < (σ (i + 1)).h.n ∧ φ1 x = some p ∧ (σ k).h.get x = (σ (i + 1)).h.get x ∧ w'.heap.size ≤ p.r) ∨ ((φ'.cut (σ k).h.n) x = some p) := fun x p e => by
            obtain ⟨e1, e2⟩ := Phi.cut_some.1 e
            by_cases h : (σ i).h.n ≤ x ∧ x < (σ (i + 1)).h.n
            · rw [hin x h.1 h.2] at e2
              exact .inl ⟨h.1, h.2, e2, hseg x h.2, hhigh x p e2 h.1⟩
            · rw [hout x h] at e2
              exact .inr (Phi.cut_some.2 ⟨e1, e2⟩)
          refine ⟨fun x y p e1 e2 => ?_, fun x x' y y' p p' e1 e1' e2 e2' er => ?_, fun x p e => ?_, hk.nw⟩
          · rcases cls x p e2 with ⟨_, _, c3, c4, _⟩ | c1
            · rw [c4] at e1
              exact (g2.ob x y p e1 c3).mono (hle1c k h1 hkN)
            · rw [hfr p.r (hk.lt x p c1).2]
              exact (hk.ob x y p e1 c1).mono hcl
          · rcases cls x p e2 with ⟨_, _, c3, c4, c5⟩ | c1 <;> rcases cls x' p' e2' with ⟨_, _, d3, d4, d5⟩ | d1
            · rw [c4] at e1; rw [d4] at e1'
              exact g2.ap x x' y y' p p' e1 e1' c3 d3 er
            · have := (hk.lt x' p' d1).2; omega
            · have := (hk.lt x p c1).2; omega
            · exact hk.ap x x' y y' p p' e1 e1' c1 d1 er
          · refine ⟨(Phi.cut_some.1 e).1, ?_⟩
            rcases cls x p e with ⟨_, _, c3, _, _⟩ | c1
            · exact (g2.lt x p c3).2
            · exact Nat.lt_of_lt_of_le (hk.lt x p c1).2 g1.size
        · by_cases h : (σ i).h.n ≤ x ∧ x < (σ (i + 1)).h.n
          · have := (T.mono hkp (i := i + 1) (j := m) (by omega) I.m_le).1
            omega
          · rw [hout x h] at e; exact I.dom x p e
    · cases hst
  · -- it is not wanted
    rename_i hw
    rw [wanted_rel (φ := φ'.cut (σ i).h.n) (fun d c ⟨j, wt, h1, h2⟩ h3 => slot_read T hkp W I R (by unfold namesC; rw [h1]; simp [h2]) c h3) hw, if_neg (by simp)]
    injection hst with hst; injection hst with e1 e2
    refine ⟨fun f _ => hF.fn f, hk m φ' _ w' ?_⟩
    have hDn : D i ≠ .wrote := by
      rw [hDi, ← e2]
      intro h
      exact absurd (did_wrote.1 h) (by omega)
    have hval : ∀ d, o.dst = some d → ∀ c', (σ (i + 1)).ts.get d = some c' → c' = .tup [] := by
      rw [← e1]; exact put_val hnti (fun d hd => W.dst i o d R.get hd)
    exact adv_pure T hkp W I hnt R hDn (Phi.le_refl _) (fun x p h => .inl h) rfl rfl rfl (Nat.le_refl _) (fun _ _ => rfl) (fun k _ hkm hs => I.hr k hkm hs) I.dom (fun d hd c' hc => by rw [hval d hd c' hc]; exact .tup .nil)
  · cases hst
end
end Go.Proofs.Ythkphcmjcekemaa.Cm
