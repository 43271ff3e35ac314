/-
  The clean machine: the states of a region in its listed order, and what its checks say.
-/
import Derived.Test.YthffbfkcmbgghaaGreatZCu
set_option linter.all false
namespace Go.Proofs.YthffbfkcmbgghaaGreat.Cm
open Go Go.RowKit
variable [Env]
def Phi.cut (φ : Phi) (n : Nat) : Phi := fun b => if b < n then φ b else none
theorem Phi.cut_some {φ : Phi} {n b : Nat} {p : Pl} : (φ.cut n) b = some p ↔ b < n ∧ φ b = some p := by
  unfold Phi.cut; by_cases h : b < n <;> simp [h]
theorem Phi.cut_le (φ : Phi) (n : Nat) : (φ.cut n).le φ := fun b p e => (Phi.cut_some.1 e).2
theorem Phi.cut_cut {φ ψ : Phi} (h : φ.le ψ) {n m : Nat} (hn : n ≤ m) : (φ.cut n).le (ψ.cut m) := fun b p e => by
  obtain ⟨h1, h2⟩ := Phi.cut_some.1 e
  exact Phi.cut_some.2 ⟨by omega, h b p h2⟩
theorem Phi.cut_eq {φ : Phi} {n : Nat} (h : ∀ b p, φ b = some p → b < n) : φ.cut n = φ := by
  funext b
  unfold Phi.cut
  by_cases hb : b < n
  · rw [if_pos hb]
  · rw [if_neg hb]
    cases e : φ b with
    | none => rfl
    | some p => exact absurd (h b p e) hb
structure Trace (P : Program) (run : Runs) (ops : Array Oper) (s s' : St) (σ : Nat → St) (D : Nat → Did) : Prop where
  s0 : σ 0 = s
  sN : σ ops.size = s'
  st : ∀ i o, ops[i]? = some o → ∃ b, stepC P run ops o (σ i) = some (σ (i + 1), b) ∧ D i = didOf P s.h.n o (σ i) b
theorem opsD_trace {P : Program} {run : Runs} {ops : Array Oper} {n0 : Nat} : ∀ {l : List Oper} {s s' : St} {ds : List Stp}, opsD P run ops n0 l s = some (ds, s') →
    ∃ σ : Nat → St, σ 0 = s ∧ σ l.length = s' ∧ ds.length = l.length ∧ ∀ i o, l[i]? = some o → ∃ b, stepC P run ops o (σ i) = some (σ (i + 1), b) ∧ ds[i]? = some ⟨didOf P n0 o (σ i) b, readOf P n0 o (σ i), (σ i).h, (σ (i + 1)).h⟩
  | [], s, s', ds, e => by
    injection e with e; injection e with e1 e2; subst e1; subst e2
    exact ⟨fun _ => s, rfl, rfl, rfl, fun i o h => by simp at h⟩
  | o :: l, s, s', ds, e => by
    unfold opsD at e
    split at e
    · rename_i s1 b h1
      split at e
      · rename_i ds1 r h2
        injection e with e; injection e with e1 e2; subst e1; subst e2
        obtain ⟨σ, a1, a2, a3, a4⟩ := opsD_trace h2
        refine ⟨fun k => match k with | 0 => s | k + 1 => σ k, rfl, a2, by simp [a3], fun i o' h => ?_⟩
        cases i with
        | zero =>
          simp at h; subst h
          exact ⟨b, by rw [h1]; simp only [a1], by simp only [a1]; rfl⟩
        | succ i => simpa using a4 i o' (by simpa using h)
      · cases e
    · cases e
section
variable {P : Program} {run : Runs} {ops : Array Oper} {s s' : St} {σ : Nat → St} {D : Nat → Did}
theorem stepC_nt {o : Oper} {s s1 : St} {b : Nat} (e : stepC P run ops o s = some (s1, b)) : s1.nt = s.nt ∧ s1.df = s.df := by
  unfold stepC at e
  split at e
  · split at e
    · rename_i c h b' ho
      injection e with e; injection e with e1 e2; subst e1
      obtain ⟨_, _, q3, q4⟩ := putC_h { s with h := h, lw := min s.lw b' } o.dst c
      exact ⟨q3, q4⟩
    · cases e
  · injection e with e; injection e with e1 e2; subst e1
    obtain ⟨_, _, q3, q4⟩ := putC_h s o.dst (.tup [])
    exact ⟨q3, q4⟩
  · cases e
theorem putC_slot (s : St) (d : Option Tmp) (c : CV) (t : Tmp) (ht : d ≠ some t) : (putC s d c).ts.get t = s.ts.get t := by
  cases d with
  | none => rfl
  | some d =>
    unfold putC
    simp only
    cases Nat.blt d s.nt
    · rfl
    · show (s.ts.put d (some c)).get t = _
      rw [Tr.get_put, if_neg (fun e => ht (by rw [e]))]
theorem putC_own (s : St) (d : Tmp) (c : CV) (hd : d < s.nt) : (putC s (some d) c).ts.get d = some c := by
  unfold putC
  simp only
  rw [show Nat.blt d s.nt = true from Nat.ble_eq_true_of_le hd]
  show (s.ts.put d (some c)).get d = _
  rw [Tr.get_put, if_pos rfl]
theorem stepC_slot {o : Oper} {s s1 : St} {b : Nat} (e : stepC P run ops o s = some (s1, b)) (t : Tmp) (ht : o.dst ≠ some t) : s1.ts.get t = s.ts.get t := by
  unfold stepC at e
  split at e
  · split at e
    · rename_i c h b' ho
      injection e with e; injection e with e1 e2; subst e1
      exact putC_slot { s with h := h, lw := min s.lw b' } o.dst c t ht
    · cases e
  · injection e with e; injection e with e1 e2; subst e1
    exact putC_slot s o.dst _ t ht
  · cases e
theorem did_wrote {n0 : Nat} {o : Oper} {s : St} {b : Nat} : didOf P n0 o s b = .wrote ↔ b < s.h.n := by
  unfold didOf
  cases hb : Nat.blt b s.h.n with
  | true => simp [blt_lt hb]
  | false =>
    have : ¬ b < s.h.n := fun h => by
      have := Nat.ble_eq_true_of_le h
      rw [show Nat.blt b s.h.n = Nat.ble (b + 1) s.h.n from rfl] at hb
      rw [hb] at this; cases this
    cases quiet P o.op <;> cases maker o.op <;> cases readOf P n0 o s <;> simp [this]
theorem dids_len : ∀ ds : List Stp, (dids ds).length = ds.length
  | [] => rfl
  | _ :: l => congrArg (· + 1) (dids_len l)
theorem dids_get : ∀ {ds : List Stp} {i : Nat} {x : Stp}, ds[i]? = some x → (dids ds)[i]? = some x.d
  | _ :: _, 0, _, h => by simp at h; subst h; rfl
  | _ :: l, i + 1, _, h => by simpa [dids] using dids_get (ds := l) (i := i) (by simpa using h)
  | [], _, _, h => by simp at h
namespace Trace
variable (T : Trace P run ops s s' σ D) (hkp : RunKp run)
include T hkp
theorem one {i : Nat} (hi : i < ops.size) : (σ i).h.n ≤ (σ (i + 1)).h.n ∧ (σ (i + 1)).lw ≤ (σ i).lw ∧ (σ (i + 1)).nt = (σ i).nt ∧ (σ (i + 1)).df = (σ i).df ∧
    (D i ≠ .wrote → ∀ b, b < (σ i).h.n → (σ (i + 1)).h.get b = (σ i).h.get b) ∧ ((∀ b, (σ i).h.n ≤ b → (σ i).h.get b = none) → ∀ b, (σ (i + 1)).h.n ≤ b → (σ (i + 1)).h.get b = none) := by
  obtain ⟨b, h1, h2⟩ := T.st i ops[i] (Array.getElem?_eq_getElem hi)
  obtain ⟨k1, _, k2, k3⟩ := stepC_kp hkp h1
  obtain ⟨k4, k5⟩ := stepC_nt h1
  refine ⟨k1.n, k2, k4, k5, fun hd x hx => k1.same x ?_ hx, k1.wf⟩
  have : ¬ b < (σ i).h.n := fun hb => hd (by rw [h2]; exact did_wrote.2 hb)
  omega
theorem mono {i j : Nat} (hij : i ≤ j) (hj : j ≤ ops.size) : (σ i).h.n ≤ (σ j).h.n ∧ (σ j).lw ≤ (σ i).lw ∧ (σ j).nt = (σ i).nt ∧ (σ j).df = (σ i).df := by
  induction j with
  | zero => have : i = 0 := by omega
            subst this; exact ⟨Nat.le_refl _, Nat.le_refl _, rfl, rfl⟩
  | succ j ih =>
    by_cases e : i = j + 1
    · subst e; exact ⟨Nat.le_refl _, Nat.le_refl _, rfl, rfl⟩
    · obtain ⟨a1, a2, a3, a4⟩ := ih (by omega) (by omega)
      obtain ⟨b1, b2, b3, b4, _⟩ := T.one hkp (i := j) (by omega)
      exact ⟨Nat.le_trans a1 b1, Nat.le_trans b2 a2, b3.trans a3, b4.trans a4⟩
theorem seg {i j : Nat} (hij : i ≤ j) (hj : j ≤ ops.size) (hd : ∀ k, i ≤ k → k < j → D k ≠ .wrote) : ∀ b, b < (σ i).h.n → (σ j).h.get b = (σ i).h.get b := by
  induction j with
  | zero => have : i = 0 := by omega
            subst this; exact fun _ _ => rfl
  | succ j ih =>
    by_cases e : i = j + 1
    · subst e; exact fun _ _ => rfl
    · intro b hb
      have a1 := ih (by omega) (by omega) (fun k h1 h2 => hd k h1 (by omega)) b hb
      obtain ⟨_, _, _, _, b5, _⟩ := T.one hkp (i := j) (by omega)
      have := (T.mono hkp (i := i) (j := j) (by omega) (by omega)).1
      exact (b5 (hd j (by omega) (by omega)) b (by omega)).trans a1
theorem wf {i : Nat} (hi : i ≤ ops.size) (h0 : ∀ b, (σ 0).h.n ≤ b → (σ 0).h.get b = none) : ∀ b, (σ i).h.n ≤ b → (σ i).h.get b = none := by
  induction i with
  | zero => exact h0
  | succ i ih => exact (T.one hkp (i := i) (by omega)).2.2.2.2.2 (ih (by omega))
theorem ng {i j : Nat} (hij : i ≤ j) (hj : j ≤ ops.size) : ∀ b o, (σ j).h.get b = some o → o.isGlob = true → (σ i).h.get b = some o := by
  induction j with
  | zero => have : i = 0 := by omega
            subst this; exact fun _ _ e _ => e
  | succ j ih =>
    by_cases e : i = j + 1
    · subst e; exact fun _ _ e _ => e
    · intro b o e1 e2
      have ho : ops[j]? = some ops[j] := Array.getElem?_eq_getElem (by omega)
      obtain ⟨b', h1, _⟩ := T.st j _ ho
      exact ih (by omega) (by omega) b o ((stepC_kp hkp h1).1.ng b o e1 e2) e2
omit hkp in
theorem slot {i j : Nat} (hij : i ≤ j) (hj : j ≤ ops.size) (t : Tmp) (hd : ∀ k o, i ≤ k → k < j → ops[k]? = some o → o.dst ≠ some t) : (σ j).ts.get t = (σ i).ts.get t := by
  induction j with
  | zero => have : i = 0 := by omega
            subst this; rfl
  | succ j ih =>
    by_cases e : i = j + 1
    · subst e; rfl
    · have a1 := ih (by omega) (by omega) (fun k o h1 h2 => hd k o h1 (by omega))
      have ho : ops[j]? = some ops[j] := Array.getElem?_eq_getElem (by omega)
      obtain ⟨b, h1, _⟩ := T.st j _ ho
      exact (stepC_slot h1 t (hd j _ (by omega) (by omega) ho)).trans a1
end Trace
/-! ### What the checks say -/
theorem maskOf_bit {acc : List Nat} : ∀ {l : List Edge} {j : Nat}, (maskOf acc l).testBit j = true → ∃ e ∈ l, Region.binds .any e = true ∧ (e.on = j ∨ (acc.getD e.on 0).testBit j = true)
  | [], j, h => by simp [maskOf] at h
  | e :: l, j, h => by
    unfold maskOf at h
    rw [Nat.testBit_or, Bool.or_eq_true] at h
    rcases h with h | h
    · cases hb : Region.binds .any e with
      | false => rw [hb] at h; simp at h
      | true =>
        rw [hb] at h
        simp only [cond_true, Nat.testBit_or, Bool.or_eq_true] at h
        refine ⟨e, by simp, hb, ?_⟩
        rcases h with h | h
        · left
          rw [Nat.testBit_two_pow] at h
          simpa using h
        · exact .inr h
    · obtain ⟨e', h1, h2⟩ := maskOf_bit h
      exact ⟨e', by simp [h1], h2⟩
theorem befL_old : ∀ (l : List Oper) (acc : List Nat) (i : Nat), i < acc.length → (befL l acc).getD i 0 = acc.getD i 0
  | [], acc, i, _ => rfl
  | o :: l, acc, i, h => by
    rw [befL, befL_old l _ i (by simp; omega)]
    simp [List.getElem?_append_left h]
theorem befL_bit : ∀ (l : List Oper) (acc : List Nat) (i j : Nat), ((befL l acc).getD (acc.length + i) 0).testBit j = true → ∃ o, l[i]? = some o ∧ ∃ e ∈ o.after.toList, Region.binds .any e = true ∧ (e.on = j ∨ ((befL l acc).getD e.on 0).testBit j = true)
  | [], acc, i, j, h => by simp [befL] at h
  | o :: l, acc, 0, j, h => by
    refine ⟨o, rfl, ?_⟩
    rw [befL, befL_old l _ (acc.length + 0) (by simp)] at h
    simp at h
    obtain ⟨e, h1, h2, h3⟩ := maskOf_bit h
    refine ⟨e, h1, h2, ?_⟩
    rcases h3 with h3 | h3
    · exact .inl h3
    · refine .inr ?_
      have hlt : e.on < acc.length := by
        rcases Nat.lt_or_ge e.on acc.length with h' | h'
        · exact h'
        · rw [List.getD_eq_getElem?_getD, List.getElem?_eq_none h'] at h3; simp at h3
      rw [befL, befL_old l _ e.on (by simp; omega)]
      simpa [List.getElem?_append_left hlt] using h3
  | o :: l, acc, i + 1, j, h => by
    have h' := h
    rw [befL, show acc.length + (i + 1) = (acc ++ [maskOf acc o.after.toList]).length + i by simp; omega] at h
    obtain ⟨o', h1, e, h2, h3, h4⟩ := befL_bit l _ i j h
    exact ⟨o', by simpa using h1, e, h2, h3, by rw [befL]; exact h4⟩
structure Drawn (ops : Array Oper) (nt : Nat) (D : Nat → Did) (before : Nat → Nat → Prop) : Prop where
  edge : ∀ (i : Nat) (o : Oper), ops[i]? = some o → ∀ e ∈ o.after, Region.binds .any e = true → e.on < i
  dst : ∀ (i : Nat) (o : Oper) (d : Tmp), ops[i]? = some o → o.dst = some d → d < nt
  slot : ∀ (i : Nat) (o : Oper) (j : Nat) (o' : Oper) (t : Tmp), ops[i]? = some o → ops[j]? = some o' → o'.dst = some t → t ∈ namesC ops o → i ≠ j → before (max i j) (min i j)
  pair : ∀ (i j : Nat), j < i → i < ops.size → pairOk (D j) (D i) = true ∨ before i j
  down : ∀ (p : Nat → Prop), (∀ (i : Nat) (o : Oper), ops[i]? = some o → p i → ∀ e ∈ o.after, Region.binds .any e = true → p e.on) → ∀ i j, before i j → p i → p j
theorem drawn_of {nt : Nat} {ds0 : List Stp} (h : drawnOk nt ops ds0 = true) (hl0 : ds0.length = ops.size) (hD : ∀ i d, (dids ds0)[i]? = some d → D i = d) : Drawn ops nt D fun i j => bef (befL ops.toList []) i j = true := by
  unfold drawnOk regionOk at h
  have hl : (dids ds0).length = ops.size := by rw [dids_len, hl0]
  generalize dids ds0 = ds at h hl hD
  rw [Bool.and_eq_true, Bool.and_eq_true] at h
  obtain ⟨⟨h1, h2⟩, h3⟩ := h
  have h3 : (plainDids ds || pairsOk (befL ops.toList []) ds) = true := by
    cases hp : plainDids ds with
    | true => rfl
    | false => rw [hp, Bool.false_or, Bool.and_eq_true] at h3; rw [h3.1]; rfl
  have hedge : ∀ i o, ops[i]? = some o → (∀ e ∈ o.after, Region.binds .any e = true → e.on < i) ∧ (∀ d, o.dst = some d → d < nt) := fun i o ho => by
    have := List.all_eq_true.1 h1 (o, i) (by rw [List.mem_zipIdx_iff_getElem?]; simpa using ho)
    simp only [Bool.and_eq_true] at this
    refine ⟨fun e he hb => ?_, fun d hd => ?_⟩
    · have := List.all_eq_true.1 this.1 e (by simpa using he)
      rw [hb] at this
      exact blt_lt (by simpa using this)
    · rw [hd] at this
      exact blt_lt this.2
  refine ⟨fun i o ho => (hedge i o ho).1, fun i o d ho => (hedge i o ho).2 d, fun i o j o' t ho ho' hd ht hij => ?_, fun i j hji hi => ?_, fun p hp => ?_⟩
  · have := List.all_eq_true.1 (List.all_eq_true.1 h2 (o, i) (by rw [List.mem_zipIdx_iff_getElem?]; simpa using ho)) (o', j) (by rw [List.mem_zipIdx_iff_getElem?]; simpa using ho')
    simp only [hd] at this
    rw [beq_dec, decide_eq_false hij, Bool.false_or, Bool.or_eq_true] at this
    rcases this with h4 | h4
    · have : (namesC ops o).contains t = true := List.contains_iff_mem.2 ht
      rw [this] at h4; cases h4
    · exact h4
  · have hi' : ds[i]? = some (D i) := by
      have : ds[i]? = some ds[i] := List.getElem?_eq_getElem (by omega)
      rw [this, hD i _ this]
    have hj' : ds[j]? = some (D j) := by
      have : ds[j]? = some ds[j] := List.getElem?_eq_getElem (by omega)
      rw [this, hD j _ this]
    rw [Bool.or_eq_true] at h3
    rcases h3 with h3 | h3
    · left
      have pl : ∀ (l : List Did), plainDids l = true → ∀ d ∈ l, d ≠ .wrote := by
        intro l
        induction l with
        | nil => intro _ d hd; cases hd
        | cons x l ih =>
          intro h d hd
          simp only [plainDids, Bool.and_eq_true] at h
          rcases List.mem_cons.1 hd with rfl | hd
          · intro e; subst e; simp at h
          · exact ih h.2 d hd
      have p1 := pl ds h3 (D i) (List.mem_of_getElem? hi')
      have p2 := pl ds h3 (D j) (List.mem_of_getElem? hj')
      cases h4 : D i <;> cases h5 : D j <;> first | rfl | exact absurd h4 p1 | exact absurd h5 p2
    · have := List.all_eq_true.1 (List.all_eq_true.1 h3 (D i, i) (by rw [List.mem_zipIdx_iff_getElem?]; exact hi')) (D j, j) (by rw [List.mem_zipIdx_iff_getElem?]; exact hj')
      simp only [Bool.or_eq_true] at this
      rcases this with (h4 | h4) | h4
      · exact absurd (ble_le h4) (by omega)
      · exact .inl h4
      · exact .inr h4
  · intro i
    induction i using Nat.strongRecOn with
    | _ i ih =>
      intro j hb hpi
      have hb' : ((befL ops.toList []).getD ((([] : List Nat).length) + i) 0).testBit j = true := by simpa [bef] using hb
      obtain ⟨o, ho, e, he, hbd, hc⟩ := befL_bit ops.toList [] i j hb'
      have ho' : ops[i]? = some o := by simpa using ho
      have he' : e ∈ o.after := by simpa using he
      have hpe := hp i o ho' hpi e he' hbd
      rcases hc with rfl | hc
      · exact hpe
      · exact ih e.on ((hedge i o ho').1 e he' hbd) j hc hpe
def Reads (P : Program) (n0 : Nat) (ops : Array Oper) (σ : Nat → St) (D : Nat → Did) (before : Nat → Nat → Prop) : Prop :=
  ∀ (i : Nat) (o : Oper) (r j : Nat), ops[i]? = some o → readOf P n0 o (σ i) = some r → j < ops.size → D j = .wrote → before i j ∨ before j i ∨ sameOpt sameOb ((σ j).h.get r) ((σ (j + 1)).h.get r) = true
theorem reads_of {nt n0 : Nat} {ds : List Stp} (h : drawnOk nt ops ds = true) (hl : ds.length = ops.size) (hD : ∀ (i : Nat) (o : Oper), ops[i]? = some o → ∃ b, ds[i]? = some ⟨didOf P n0 o (σ i) b, readOf P n0 o (σ i), (σ i).h, (σ (i + 1)).h⟩) (hd : ∀ i d, (dids ds)[i]? = some d → D i = d) : Reads P n0 ops σ D fun i j => bef (befL ops.toList []) i j = true := by
  intro i o r j ho hr hj hw
  unfold drawnOk at h
  rw [Bool.and_eq_true] at h
  obtain ⟨bj, hbj⟩ := hD j ops[j] (Array.getElem?_eq_getElem hj)
  have hdj := hd j _ (dids_get hbj)
  rw [hw] at hdj
  simp only at hdj
  cases hp : plainDids (dids ds) with
  | true =>
    exfalso
    have pl : ∀ (l : List Did), plainDids l = true → ∀ d ∈ l, d ≠ .wrote := by
      intro l
      induction l with
      | nil => intro _ d hd; cases hd
      | cons x l ih =>
        intro h d hd
        simp only [plainDids, Bool.and_eq_true] at h
        rcases List.mem_cons.1 hd with rfl | hd
        · intro e; subst e; simp at h
        · exact ih h.2 d hd
    exact pl _ hp _ (List.mem_of_getElem? (dids_get hbj)) hdj.symm
  | false =>
    have h2 := h.2
    rw [hp, Bool.false_or, Bool.and_eq_true, Bool.and_eq_true] at h2
    obtain ⟨bi, hbi⟩ := hD i o ho
    have h3 := List.all_eq_true.1 h2.2.1 (_, i) (by rw [List.mem_zipIdx_iff_getElem?]; exact hbi)
    simp only [hr] at h3
    have h4 := List.all_eq_true.1 h3 (_, j) (by rw [List.mem_zipIdx_iff_getElem?]; exact hbj)
    simp only [← hdj, Bool.false_or, Bool.or_eq_true] at h4
    rcases h4 with (h4 | h4) | h4
    · exact .inl h4
    · exact .inr (.inl h4)
    · exact .inr (.inr h4)
theorem blocksSame_get {f : CObj → CObj → Bool} (hf : ∀ {a b : Option CObj}, sameOpt sameOb a b = true → a = b) {h h1 : CH} {a : Nat} : ∀ {n : Nat}, blocksSame h h1 a n = true → ∀ x, a ≤ x → x < a + n → h1.get x = h.get x
  | 0, _, x, h1, h2 => by omega
  | n + 1, e, x, g1, g2 => by
    simp only [blocksSame, Bool.and_eq_true] at e
    by_cases hx : x = a + n
    · subst hx; exact hf e.1
    · exact blocksSame_get (f := f) hf e.2 x g1 (by omega)
def Makes (ops : Array Oper) (σ : Nat → St) (D : Nat → Did) (before : Nat → Nat → Prop) : Prop :=
  ∀ (j i : Nat), j < i → i < ops.size → D j = .made → D i = .wrote → before i j ∨ blocksSame (σ i).h (σ (i + 1)).h (σ j).h.n ((σ (j + 1)).h.n - (σ j).h.n) = true
theorem makes_of {nt n0 : Nat} {ds : List Stp} (h : drawnOk nt ops ds = true) (hl : ds.length = ops.size) (hD : ∀ (i : Nat) (o : Oper), ops[i]? = some o → ∃ b, ds[i]? = some ⟨didOf P n0 o (σ i) b, readOf P n0 o (σ i), (σ i).h, (σ (i + 1)).h⟩) (hd : ∀ i d, (dids ds)[i]? = some d → D i = d) : Makes ops σ D fun i j => bef (befL ops.toList []) i j = true := by
  intro j i hji hi hm hw
  unfold drawnOk at h
  rw [Bool.and_eq_true] at h
  obtain ⟨bi, hbi⟩ := hD i ops[i] (Array.getElem?_eq_getElem hi)
  have hdi := hd i _ (dids_get hbi)
  rw [hw] at hdi
  simp only at hdi
  obtain ⟨bj, hbj⟩ := hD j (ops[j]'(by omega)) (Array.getElem?_eq_getElem (by omega))
  have hdj := hd j _ (dids_get hbj)
  rw [hm] at hdj
  simp only at hdj
  cases hp : plainDids (dids ds) with
  | true =>
    exfalso
    have pl : ∀ (l : List Did), plainDids l = true → ∀ d ∈ l, d ≠ .wrote := by
      intro l
      induction l with
      | nil => intro _ d hd; cases hd
      | cons x l ih =>
        intro h d hd
        simp only [plainDids, Bool.and_eq_true] at h
        rcases List.mem_cons.1 hd with rfl | hd
        · intro e; subst e; simp at h
        · exact ih h.2 d hd
    exact pl _ hp _ (List.mem_of_getElem? (dids_get hbi)) hdi.symm
  | false =>
    have h2 := h.2
    rw [hp, Bool.false_or, Bool.and_eq_true, Bool.and_eq_true] at h2
    have h3 := List.all_eq_true.1 h2.2.2 (_, j) (by rw [List.mem_zipIdx_iff_getElem?]; exact hbj)
    simp only [← hdj] at h3
    have h4 := List.all_eq_true.1 h3 (_, i) (by rw [List.mem_zipIdx_iff_getElem?]; exact hbi)
    simp only [← hdi, isWrote, Bool.not_true, Bool.or_false, Bool.or_eq_true] at h4
    rcases h4 with (h4 | h4) | h4
    · exact absurd (ble_le h4) (by omega)
    · exact .inl h4
    · exact .inr h4
end
end Go.Proofs.YthffbfkcmbgghaaGreat.Cm
