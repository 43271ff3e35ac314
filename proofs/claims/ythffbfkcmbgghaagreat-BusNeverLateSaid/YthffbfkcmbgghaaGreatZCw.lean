/-
  The clean machine and the model: a region that draws its order.
-/
import Derived.Test.YthffbfkcmbgghaaGreatZCv
import Derived.StillTail
set_option linter.all false
namespace Go.Proofs.YthffbfkcmbgghaaGreat.Cm
open Go Go.RowKit
variable [Env]
section
variable {P : Program} {run : Runs} {ops : Array Oper} {s s' : St} {σ : Nat → St} {D : Nat → Did} {bf : Nat → Nat → Prop}
theorem HR.still {φ : Phi} {h : CH} {w w' : World} (hh : HR φ h w) (hsz : w.heap.size ≤ w'.heap.size) (hfr : ∀ r, r < w.heap.size → w'.heap[r]? = w.heap[r]?) : HR φ h w' :=
  ⟨fun b o p e1 e2 => by rw [hfr p.r (hh.lt b p e2).2]; exact hh.ob b o p e1 e2, hh.ap, fun b p e => ⟨(hh.lt b p e).1, Nat.lt_of_lt_of_le (hh.lt b p e).2 hsz⟩, hh.nw, hh.gl⟩
theorem HR.ext {φ : Phi} {h h' : CH} {w : World} (hh : HR φ h w) (hn : h.n ≤ h'.n) (hs : ∀ b, b < h.n → h'.get b = h.get b) (hw : ∀ b, h'.n ≤ b → h'.get b = none) (hg : ∀ b o, h'.get b = some o → o.isGlob = true → h.get b = some o) : HR φ h' w :=
  ⟨fun b o p e1 e2 => hh.ob b o p (by rw [← hs b (hh.lt b p e2).1]; exact e1) e2,
   fun b b' o o' p p' e1 e1' e2 e2' => hh.ap b b' o o' p p' (by rw [← hs b (hh.lt b p e2).1]; exact e1) (by rw [← hs b' (hh.lt b' p' e2').1]; exact e1') e2 e2',
   fun b p e => ⟨Nat.lt_of_lt_of_le (hh.lt b p e).1 hn, (hh.lt b p e).2⟩, hw, fun b o e1 e2 => hh.gl b o (hg b o e1 e2) e2⟩
theorem next_writer (D : Nat → Did) (N : Nat) : ∀ (f k : Nat), k + f = N → ∃ m, k ≤ m ∧ m ≤ N ∧ (m = N ∨ D m = .wrote) ∧ ∀ j, k ≤ j → j < m → D j ≠ .wrote
  | 0, k, h => ⟨k, Nat.le_refl _, by omega, .inl (by omega), fun j h1 h2 => by omega⟩
  | f + 1, k, h => by
    by_cases hd : D k = .wrote
    · exact ⟨k, Nat.le_refl _, by omega, .inr hd, fun j h1 h2 => by omega⟩
    · obtain ⟨m, h1, h2, h3, h4⟩ := next_writer D N f (k + 1) (by omega)
      refine ⟨m, by omega, h2, h3, fun j g1 g2 => ?_⟩
      by_cases e : j = k
      · subst e; exact hd
      · exact h4 j (by omega) g2
def Li (listed : Array Bool) (i : Nat) : Prop := listed.getD i false = true
theorem li_set {listed : Array Bool} {i j : Nat} (hi : i < listed.size) : Li (listed.setIfInBounds i true) j ↔ (j = i ∨ Li listed j) := by
  unfold Li
  by_cases e : j = i
  · subst e
    simp [hi]
  · rw [getD_set_ne false (fun h => e h.symm)]; simp [e]
structure Inv (ops : Array Oper) (σ : Nat → St) (D : Nat → Did) (φ : Phi) (w : World) (a : Act) (s s' : St) (listed : Array Bool) (m : Nat) (φ' : Phi) (a' : Act) (w' : World) : Prop where
  sz : listed.size = ops.size
  down : ∀ i o, ops[i]? = some o → Li listed i → ∀ e ∈ o.after, Region.binds .any e = true → Li listed e.on
  m_le : m ≤ ops.size
  m_wr : m = ops.size ∨ D m = .wrote
  wr : ∀ i, i < ops.size → D i = .wrote → (Li listed i ↔ i < m)
  hr : ∀ k, k ≤ m → (∀ j, k ≤ j → j < m → D j ≠ .wrote) → HR (φ'.cut (σ k).h.n) (σ k).h w'
  dom : ∀ b p, φ' b = some p → b < (σ m).h.n ∨ ∃ j, m ≤ j ∧ j < ops.size ∧ D j = .made ∧ Li listed j ∧ (σ j).h.n ≤ b ∧ b < (σ (j + 1)).h.n
  lt : ∀ b p, φ' b = some p → p.r < w'.heap.size
  mks : ∀ j, m ≤ j → j < ops.size → D j = .made → Li listed j → ∀ x p, (σ j).h.n ≤ x → x < (σ (j + 1)).h.n → φ' x = some p → (∀ o, (σ (j + 1)).h.get x = some o → OR (φ'.cut (σ (j + 1)).h.n) w'.heap[p.r]? p o) ∧ ∀ y q, φ' y = some q → q.r = p.r → y = x
  own : ∀ j, j < ops.size → ¬ Li listed j → ∀ x, (σ j).h.n ≤ x → x < (σ (j + 1)).h.n → φ' x = none
  sl : ∀ t : Tmp, ∃ v, v ≤ ops.size ∧ (∀ u, v = u + 1 → ∃ o, ops[u]? = some o ∧ o.dst = some t) ∧ (∀ i o, ops[i]? = some o → o.dst = some t → (Li listed i ↔ i < v)) ∧ ∀ c, (σ v).ts.get t = some c → ∃ val, a'.tmps[t]? = some val ∧ VR (φ'.cut (σ v).h.n) c val
  size : a'.tmps.size = s.nt
  df : a'.defers = a.defers
  went : Went φ s.h.n s'.lw w φ' w'
variable {φ φ' : Phi} {w w' : World} {a a' : Act} {listed : Array Bool} {m : Nat}
structure Rdy (ops : Array Oper) (listed : Array Bool) (i : Nat) (o : Oper) : Prop where
  get : ops[i]? = some o
  un : ¬ Li listed i
  pre : ∀ e ∈ o.after, Region.binds .any e = true → Li listed e.on
theorem Rdy.lt {i : Nat} {o : Oper} (R : Rdy ops listed i o) : i < ops.size := (Array.getElem?_eq_some_iff.1 R.get).1
theorem bf_listed {nt : Nat} (W : Drawn ops nt D bf) (I : Inv ops σ D φ w a s s' listed m φ' a' w') {i j : Nat} {o : Oper} (R : Rdy ops listed i o) (h : bf i j) : j = i ∨ Li listed j := by
  have := W.down (fun x => x = i ∨ Li listed x) (fun x o' ho' hx e he hb => by
    rcases hx with rfl | hx
    · have : o' = o := Option.some.inj (ho'.symm.trans R.get)
      subst this
      exact .inr (R.pre e he hb)
    · exact .inr (I.down x o' ho' hx e he hb)) i j h (.inl rfl)
  exact this
theorem bf_down {nt : Nat} (W : Drawn ops nt D bf) (I : Inv ops σ D φ w a s s' listed m φ' a' w') {i j : Nat} (hi : Li listed i) (h : bf i j) : Li listed j :=
  W.down (Li listed) (fun x o ho hx e he hb => I.down x o ho hx e he hb) i j h hi
theorem slot_read {nt : Nat} (T : Trace P run ops s s' σ D) (hkp : RunKp run) (W : Drawn ops nt D bf) (I : Inv ops σ D φ w a s s' listed m φ' a' w') {i : Nat} {o : Oper} (R : Rdy ops listed i o) {t : Tmp} (ht : t ∈ namesC ops o) :
    ∀ c, (σ i).ts.get t = some c → ∃ val, a'.tmps[t]? = some val ∧ VR (φ'.cut (σ i).h.n) c val := by
  obtain ⟨v, v1, v2, v3, v4⟩ := I.sl t
  have hi := R.lt
  have no1 : ∀ j o', v ≤ j → j < i → ops[j]? = some o' → o'.dst ≠ some t := fun j o' h1 h2 ho' hd => by
    have hb := W.slot i o j o' t R.get ho' hd ht (by omega)
    rw [Nat.max_eq_left (by omega), Nat.min_eq_right (by omega)] at hb
    rcases bf_listed W I R hb with e | hl
    · omega
    · have := (v3 j o' ho' hd).1 hl; omega
  have no2 : ∀ j o', i ≤ j → j < v → ops[j]? = some o' → o'.dst ≠ some t := fun j o' h1 h2 ho' hd => by
    have hl := (v3 j o' ho' hd).2 h2
    by_cases e : j = i
    · subst e; exact R.un hl
    · have hb := W.slot i o j o' t R.get ho' hd ht (by omega)
      rw [Nat.max_eq_right (by omega), Nat.min_eq_left (by omega)] at hb
      exact R.un (bf_down W I hl hb)
  have hvi : v ≤ i := by
    rcases Nat.lt_or_ge i v with h | h
    · obtain ⟨u, rfl⟩ : ∃ u, v = u + 1 := ⟨v - 1, by omega⟩
      obtain ⟨o', ho', hd⟩ := v2 u rfl
      exact absurd hd (no2 u o' (by omega) (by omega) ho')
    · exact h
  intro c hc
  rw [T.slot hvi (by omega) t (fun k o' h1 h2 ho' => no1 k o' h1 h2 ho')] at hc
  obtain ⟨val, h1, h2⟩ := v4 c hc
  exact ⟨val, h1, h2.mono (Phi.cut_cut (Phi.le_refl _) (T.mono hkp hvi (by omega)).1)⟩
theorem tmps_put (a' : Act) (d : Option Tmp) (v : Value) (t : Tmp) (h : d ≠ some t) : (a'.put d v).tmps[t]? = a'.tmps[t]? := by
  cases d with
  | none => rfl
  | some d =>
    show (a'.tmps.setIfInBounds d v)[t]? = _
    rw [Array.getElem?_setIfInBounds, if_neg (fun e => h (by rw [e]))]
theorem slots_adv {nt : Nat} (W : Drawn ops nt D bf) (I : Inv ops σ D φ w a s s' listed m φ' a' w') (hnt : s.nt = nt) {i : Nat} {o : Oper} (R : Rdy ops listed i o) {φ'' : Phi} (hle : φ'.le φ'') {val : Value} (hv : ∀ d, o.dst = some d → ∀ c, (σ (i + 1)).ts.get d = some c → VR (φ''.cut (σ (i + 1)).h.n) c val) :
    ∀ t : Tmp, ∃ v, v ≤ ops.size ∧ (∀ u, v = u + 1 → ∃ o, ops[u]? = some o ∧ o.dst = some t) ∧ (∀ j o', ops[j]? = some o' → o'.dst = some t → (Li (listed.setIfInBounds i true) j ↔ j < v)) ∧ ∀ c, (σ v).ts.get t = some c → ∃ x, (a'.put o.dst val).tmps[t]? = some x ∧ VR (φ''.cut (σ v).h.n) c x := by
  intro t
  have hi := R.lt
  have hsz : i < listed.size := by rw [I.sz]; exact hi
  by_cases hd : o.dst = some t
  · refine ⟨i + 1, by omega, fun u hu => ?_, fun j o' ho' hd' => ?_, fun c hc => ?_⟩
    · obtain rfl : u = i := by omega
      exact ⟨o, R.get, hd⟩
    · rw [li_set hsz]
      have hname : t ∈ namesC ops o := by unfold namesC; rw [hd]; simp
      constructor
      · rintro (rfl | hl)
        · omega
        · rcases Nat.lt_or_ge j (i + 1) with h | h
          · exact h
          · have hb := W.slot i o j o' t R.get ho' hd' hname (by omega)
            rw [Nat.max_eq_right (by omega), Nat.min_eq_left (by omega)] at hb
            exact absurd (bf_down W I hl hb) R.un
      · intro h
        by_cases e : j = i
        · exact .inl e
        · have hb := W.slot i o j o' t R.get ho' hd' hname (by omega)
          rw [Nat.max_eq_left (by omega), Nat.min_eq_right (by omega)] at hb
          exact bf_listed W I R hb
    · refine ⟨val, ?_, hv t hd c hc⟩
      rw [hd]
      show (a'.tmps.setIfInBounds t val)[t]? = some val
      have hlt : t < a'.tmps.size := by rw [I.size, hnt]; exact W.dst i o t R.get hd
      rw [Array.getElem?_setIfInBounds, if_pos rfl, if_pos hlt]
  · obtain ⟨v, v1, v2, v3, v4⟩ := I.sl t
    refine ⟨v, v1, v2, fun j o' ho' hd' => ?_, fun c hc => ?_⟩
    · rw [li_set hsz, ← v3 j o' ho' hd']
      constructor
      · rintro (rfl | h)
        · have : o' = o := Option.some.inj (ho'.symm.trans R.get)
          subst this; exact absurd hd' hd
        · exact h
      · exact .inr
    · obtain ⟨x, h1, h2⟩ := v4 c hc
      exact ⟨x, by rw [tmps_put a' o.dst val t hd]; exact h1, h2.mono (Phi.cut_cut hle (Nat.le_refl _))⟩
theorem down_adv (I : Inv ops σ D φ w a s s' listed m φ' a' w') {i : Nat} {o : Oper} (R : Rdy ops listed i o) : ∀ j o', ops[j]? = some o' → Li (listed.setIfInBounds i true) j → ∀ e ∈ o'.after, Region.binds .any e = true → Li (listed.setIfInBounds i true) e.on := by
  have hsz : i < listed.size := by rw [I.sz]; exact R.lt
  intro j o' ho' hl e he hb
  rw [li_set hsz] at hl ⊢
  rcases hl with rfl | hl
  · have : o' = o := Option.some.inj (ho'.symm.trans R.get)
    subst this
    exact .inr (R.pre e he hb)
  · exact .inr (I.down j o' ho' hl e he hb)
theorem put_size (a' : Act) (d : Option Tmp) (v : Value) : (a'.put d v).tmps.size = a'.tmps.size ∧ (a'.put d v).defers = a'.defers := by
  cases d <;> simp [Act.put]
theorem adv_pure {nt : Nat} (T : Trace P run ops s s' σ D) (hkp : RunKp run) (W : Drawn ops nt D bf) (I : Inv ops σ D φ w a s s' listed m φ' a' w') (hnt : s.nt = nt) {i : Nat} {o : Oper} (R : Rdy ops listed i o) (hD : D i ≠ .wrote) {φ'' : Phi} {w1 : World} {val : Value} (hle : φ'.le φ'')
    (hnew : ∀ x p, φ'' x = some p → φ' x = some p ∨ ((σ i).h.n ≤ x ∧ x < (σ (i + 1)).h.n ∧ w'.heap.size ≤ p.r)) (hos : w1.os = w'.os) (htp : w1.tape = w'.tape) (hou : w1.output = w'.output) (hsz : w'.heap.size ≤ w1.heap.size) (hfr : ∀ r, r < w'.heap.size → w1.heap[r]? = w'.heap[r]?)
    (hr : ∀ k, i < k → k ≤ m → (∀ j, k ≤ j → j < m → D j ≠ .wrote) → HR (φ''.cut (σ k).h.n) (σ k).h w1) (him : i < m ∨ D i = .made ∨ φ'' = φ') (hlt : ∀ b p, φ'' b = some p → p.r < w1.heap.size)
    (hmk : D i = .made → ∀ x p, (σ i).h.n ≤ x → x < (σ (i + 1)).h.n → φ'' x = some p → (∀ o, (σ (i + 1)).h.get x = some o → OR (φ''.cut (σ (i + 1)).h.n) w1.heap[p.r]? p o) ∧ ∀ y q, φ'' y = some q → q.r = p.r → y = x) (hv : ∀ d, o.dst = some d → ∀ c, (σ (i + 1)).ts.get d = some c → VR (φ''.cut (σ (i + 1)).h.n) c val) :
    Inv ops σ D φ w a s s' (listed.setIfInBounds i true) m φ'' (a'.put o.dst val) w1 := by
  have hi := R.lt
  have hls : i < listed.size := by rw [I.sz]; exact hi
  obtain ⟨p1, p2⟩ := put_size a' o.dst val
  refine ⟨by simp [I.sz], down_adv I R, I.m_le, I.m_wr, fun j hj hd => ?_, fun k hk hs => ?_, fun b p e => ?_, hlt, fun j hmj hj hd hl x p h1 h2 e => ?_, fun j hj hl x h1 h2 => ?_, slots_adv W I hnt R hle hv, by rw [p1]; exact I.size, by rw [p2]; exact I.df, ?_⟩
  · rw [li_set hls, ← I.wr j hj hd]
    constructor
    · rintro (rfl | h)
      · exact absurd hd hD
      · exact h
    · exact .inr
  · rcases Nat.lt_or_ge i k with h | h
    · exact hr k h hk hs
    · have e : φ''.cut (σ k).h.n = φ'.cut (σ k).h.n := by
        funext b
        unfold Phi.cut
        by_cases hb : b < (σ k).h.n
        · rw [if_pos hb, if_pos hb]
          cases h1 : φ' b with
          | some p => exact hle b p h1
          | none =>
            cases h2 : φ'' b with
            | none => rfl
            | some p =>
              rcases hnew b p h2 with h3 | ⟨h3, _⟩
              · rw [h1] at h3; cases h3
              · have := (T.mono hkp h (by omega)).1; omega
        · rw [if_neg hb, if_neg hb]
      rw [e]
      exact (I.hr k hk hs).still hsz hfr
  · rcases hnew b p e with h | ⟨h1, h2, _⟩
    · rcases I.dom b p h with h | ⟨j, q1, q2, q3, q4, q5⟩
      · exact .inl h
      · exact .inr ⟨j, q1, q2, q3, (li_set hls).2 (.inr q4), q5⟩
    · rcases him with h | h | h
      · have := (T.mono hkp (i := i + 1) (j := m) (by omega) I.m_le).1
        exact .inl (by omega)
      · rcases Nat.lt_or_ge i m with hm | hm
        · have := (T.mono hkp (i := i + 1) (j := m) (by omega) I.m_le).1
          exact .inl (by omega)
        · exact .inr ⟨i, hm, hi, h, (li_set hls).2 (.inl rfl), h1, h2⟩
      · subst h
        rcases I.dom b p e with h | ⟨j, q1, q2, q3, q4, q5⟩
        · exact .inl h
        · exact .inr ⟨j, q1, q2, q3, (li_set hls).2 (.inr q4), q5⟩
  · rw [li_set hls] at hl
    by_cases hji : j = i
    · subst hji; exact hmk hd x p h1 h2 e
    · have hlj : Li listed j := by
        rcases hl with h | h
        · exact absurd h hji
        · exact h
      have e' : φ' x = some p := by
        rcases hnew x p e with h | ⟨g1, g2, _⟩
        · exact h
        · rcases Nat.lt_or_ge j i with h | h
          · have := (T.mono hkp (i := j + 1) (j := i) (by omega) (by omega)).1; omega
          · have := (T.mono hkp (i := i + 1) (j := j) (by omega) (by omega)).1; omega
      obtain ⟨k1, k2⟩ := I.mks j hmj hj hd hlj x p h1 h2 e'
      refine ⟨fun o ho => ?_, fun y q ey er => ?_⟩
      · rw [hfr p.r (I.lt x p e')]
        exact (k1 o ho).mono (Phi.cut_cut hle (Nat.le_refl _))
      · rcases hnew y q ey with h | ⟨_, _, g3⟩
        · exact k2 y q h er
        · have := I.lt x p e'; omega
  · rw [li_set hls] at hl
    have hji : j ≠ i := fun e => hl (.inl e)
    have hold := I.own j hj (fun h => hl (.inr h)) x h1 h2
    cases h3 : φ'' x with
    | none => rfl
    | some p =>
      rcases hnew x p h3 with h4 | ⟨h4, h5, _⟩
      · rw [hold] at h4; cases h4
      · rcases Nat.lt_or_ge j i with h | h
        · have := (T.mono hkp (i := j + 1) (j := i) (by omega) (by omega)).1; omega
        · have := (T.mono hkp (i := i + 1) (j := j) (by omega) (by omega)).1; omega
  · have n0 : s.h.n ≤ (σ i).h.n := by
      have := (T.mono hkp (i := 0) (j := i) (by omega) (by omega)).1
      rwa [T.s0] at this
    have hstep : Went φ' s.h.n s'.lw w' φ'' w1 := ⟨hle, fun b p e => by
      rcases hnew b p e with h | ⟨h1, _, h2⟩
      · exact .inl h
      · exact .inr ⟨by omega, .inl h2⟩, hos, htp, hou, hsz, fun r hr' _ => hfr r hr'⟩
    exact I.went.trans hstep (Nat.le_refl _) (Nat.le_refl _) (Nat.le_refl _)
theorem adv_write {nt : Nat} (T : Trace P run ops s s' σ D) (hkp : RunKp run) (hwf : ∀ b, (σ 0).h.n ≤ b → (σ 0).h.get b = none) (W : Drawn ops nt D bf) (I : Inv ops σ D φ w a s s' listed m φ' a' w') (hnt : s.nt = nt) {o : Oper} (R : Rdy ops listed m o) (hD : D m = .wrote) {φ1 : Phi} {w1 : World} {val : Value} {lw : Nat} (hlw : s'.lw ≤ lw)
    (hg : Went (φ'.cut (σ m).h.n) (σ m).h.n lw w' φ1 w1) (hr : HR φ1 (σ (m + 1)).h w1) (hv : ∀ d, o.dst = some d → ∀ c, (σ (m + 1)).ts.get d = some c → VR φ1 c val) :
    ∃ m' φ'', Inv ops σ D φ w a s s' (listed.setIfInBounds m true) m' φ'' (a'.put o.dst val) w1 := by
  have hi := R.lt
  have hls : m < listed.size := by rw [I.sz]; exact hi
  obtain ⟨p1, p2⟩ := put_size a' o.dst val
  obtain ⟨m', q1, q2, q3, q4⟩ := next_writer D ops.size (ops.size - (m + 1)) (m + 1) (by omega)
  have hnm := (T.mono hkp (i := m) (j := m + 1) (by omega) (by omega)).1
  obtain ⟨φ'', hφ⟩ : ∃ φ'' : Phi, φ'' = fun x => if x < (σ (m + 1)).h.n then φ1 x else φ' x := ⟨_, rfl⟩
  have hin : ∀ x, x < (σ (m + 1)).h.n → φ'' x = φ1 x := fun x h => by rw [hφ]; exact if_pos h
  have hout : ∀ x, (σ (m + 1)).h.n ≤ x → φ'' x = φ' x := fun x h => by rw [hφ]; exact if_neg (by omega)
  have hd1 : ∀ b p, φ1 b = some p → b < (σ (m + 1)).h.n := fun b p e => (hr.lt b p e).1
  have hle1 : φ1.le φ'' := fun x p e => by rw [hin x (hd1 x p e)]; exact e
  have early : ∀ j, m ≤ j → D j = .made → m + 1 ≤ j := fun j h1 h2 => by
    rcases Nat.lt_or_ge m j with h | h
    · exact h
    · have : j = m := by omega
      subst this; rw [hD] at h2; cases h2
  have hle : φ'.le φ'' := fun x p e => by
    rcases I.dom x p e with h | ⟨j, g1, g2, g3, g4, g5, g6⟩
    · exact hle1 x p (hg.le x p (Phi.cut_some.2 ⟨h, e⟩))
    · have := (T.mono hkp (i := m + 1) (j := j) (early j g1 g3) (by omega)).1
      rw [hout x (by omega)]; exact e
  have cls : ∀ x p, φ'' x = some p → (x < (σ (m + 1)).h.n ∧ φ1 x = some p) ∨ ((σ (m + 1)).h.n ≤ x ∧ φ' x = some p ∧ ∃ j, m + 1 ≤ j ∧ j < ops.size ∧ D j = .made ∧ Li listed j ∧ (σ j).h.n ≤ x ∧ x < (σ (j + 1)).h.n) := fun x p e => by
    rcases Nat.lt_or_ge x (σ (m + 1)).h.n with h | h
    · rw [hin x h] at e; exact .inl ⟨h, e⟩
    · rw [hout x h] at e
      rcases I.dom x p e with g | ⟨j, g1, g2, g3, g4⟩
      · omega
      · exact .inr ⟨h, e, j, early j g1 g3, g2, g3, g4⟩
  -- the blocks that were made early lie apart from all others, and are as they were
  have sep : ∀ x p y q, φ1 x = some p → (σ (m + 1)).h.n ≤ y → φ' y = some q → p.r ≠ q.r := fun x p y q ex hy ey er => by
    rcases I.dom y q ey with g | ⟨j, g1, g2, g3, g4, g5, g6⟩
    · omega
    · obtain ⟨_, k2⟩ := I.mks j g1 g2 g3 g4 y q g5 g6 ey
      rcases hg.new x p ex with h | ⟨_, h | ⟨b0, p0, _, h2, h3⟩⟩
      · obtain ⟨h1, h2⟩ := Phi.cut_some.1 h
        have := k2 x p h2 er; omega
      · have := I.lt y q ey; omega
      · obtain ⟨h4, h5⟩ := Phi.cut_some.1 h2
        have := k2 b0 p0 h5 (h3.trans er); omega
  have same : ∀ y q, (σ (m + 1)).h.n ≤ y → φ' y = some q → w1.heap[q.r]? = w'.heap[q.r]? := fun y q hy ey =>
    hg.fr q.r (I.lt y q ey) fun b p _ e er => by
      have := sep b p y q (hg.le b p e) hy ey; exact this er
  have hlt' : ∀ b p, φ'' b = some p → p.r < w1.heap.size := fun b p e => by
    rcases cls b p e with ⟨_, h⟩ | ⟨_, h, _⟩
    · exact (hr.lt b p h).2
    · exact Nat.lt_of_lt_of_le (I.lt b p h) hg.size
  refine ⟨m', φ'', by simp [I.sz], down_adv I R, q2, q3, fun j hj hd => ?_, fun k hk hs => ?_, fun b p e => ?_, hlt', fun j hmj hj hd hl x p h1 h2 e => ?_, fun j hj hl x h1 h2 => ?_, slots_adv W I hnt R hle (fun d hd c hc => (hv d hd c hc).mono fun x p e => Phi.cut_some.2 ⟨hd1 x p e, hle1 x p e⟩), by rw [p1]; exact I.size, by rw [p2]; exact I.df, ?_⟩
  · rw [li_set hls, I.wr j hj hd]
    constructor
    · rintro (rfl | h) <;> omega
    · intro h
      rcases Nat.lt_or_ge j (m + 1) with h1 | h1
      · omega
      · exact absurd hd (q4 j h1 h)
  · have hmk : m + 1 ≤ k := by
      rcases Nat.lt_or_ge m k with h | h
      · exact h
      · exact absurd hD (hs m h (by omega))
    have hkN : k ≤ ops.size := by omega
    have n1 := (T.mono hkp hmk hkN).1
    have hle1k : φ1.le (φ''.cut (σ k).h.n) := fun x p e => Phi.cut_some.2 ⟨by have := hd1 x p e; omega, hle1 x p e⟩
    have late : ∀ j x, m + 1 ≤ j → j < ops.size → (σ j).h.n ≤ x → x < (σ k).h.n → x < (σ (j + 1)).h.n → (σ k).h.get x = (σ (j + 1)).h.get x := fun j x g1 g2 g3 g4 g5 => by
      have hjk : j < k := by
        rcases Nat.lt_or_ge j k with h | h
        · exact h
        · have := (T.mono hkp (i := k) (j := j) h (by omega)).1; omega
      exact T.seg hkp (i := j + 1) (j := k) (by omega) hkN (fun u u1 u2 => q4 u (by omega) (by omega)) x g5
    refine ⟨fun b ob p e1 e2 => ?_, fun b b' ob ob' p p' e1 e1' e2 e2' er => ?_, fun b p e => ⟨(Phi.cut_some.1 e).1, hlt' b p (Phi.cut_some.1 e).2⟩, T.wf hkp hkN hwf, fun b ob e1 e2 => by
      obtain ⟨p, hp⟩ := hr.gl b ob (T.ng hkp (i := m + 1) (j := k) hmk hkN b ob e1 e2) e2
      exact ⟨p, hle1k b p hp⟩⟩
    · obtain ⟨c1, c2⟩ := Phi.cut_some.1 e2
      rcases cls b p c2 with ⟨h, h'⟩ | ⟨h, h', j, g1, g2, g3, g4, g5, g6⟩
      · rw [T.seg hkp hmk hkN (fun x h1 h2 => q4 x h1 (by omega)) b h] at e1
        exact (hr.ob b ob p e1 h').mono hle1k
      · rw [late j b g1 g2 g5 c1 g6] at e1
        rw [same b p h h']
        refine ((I.mks j (by omega) g2 g3 g4 b p g5 g6 h').1 ob e1).mono (fun x p2 e => ?_)
        obtain ⟨d1, d2⟩ := Phi.cut_some.1 e
        have hjk : j < k := by
          rcases Nat.lt_or_ge j k with h | h
          · exact h
          · have := (T.mono hkp (i := k) (j := j) h (by omega)).1; omega
        have := (T.mono hkp (i := j + 1) (j := k) (by omega) hkN).1
        exact Phi.cut_some.2 ⟨by omega, hle x p2 d2⟩
    · obtain ⟨c1, c2⟩ := Phi.cut_some.1 e2
      obtain ⟨d1, d2⟩ := Phi.cut_some.1 e2'
      rcases cls b p c2 with ⟨h, h'⟩ | ⟨h, h', j, g1, g2, g3, g4, g5, g6⟩ <;> rcases cls b' p' d2 with ⟨u, u'⟩ | ⟨u, u', j', v1, v2, v3, v4, v5, v6⟩
      · rw [T.seg hkp hmk hkN (fun x h1 h2 => q4 x h1 (by omega)) b h] at e1
        rw [T.seg hkp hmk hkN (fun x h1 h2 => q4 x h1 (by omega)) b' u] at e1'
        exact hr.ap b b' ob ob' p p' e1 e1' h' u' er
      · exact absurd er (sep b p b' p' h' u u')
      · exact absurd er.symm (sep b' p' b p u' h h')
      · exact .inl ((I.mks j' (by omega) v2 v3 v4 b' p' v5 v6 u').2 b p h' er)
  · rcases cls b p e with ⟨h, _⟩ | ⟨h, h', j, g1, g2, g3, g4, g5, g6⟩
    · have := (T.mono hkp q1 q2).1
      exact .inl (by omega)
    · rcases Nat.lt_or_ge j m' with hj | hj
      · have := (T.mono hkp (i := j + 1) (j := m') (by omega) q2).1
        exact .inl (by omega)
      · exact .inr ⟨j, hj, g2, g3, (li_set hls).2 (.inr g4), g5, g6⟩
  · have hjm : j ≠ m := by omega
    have hlj : Li listed j := by
      rcases (li_set hls).1 hl with h | h
      · exact absurd h hjm
      · exact h
    have hn1 := (T.mono hkp (i := m + 1) (j := j) (by omega) (by omega)).1
    have e' : φ' x = some p := by rw [hout x (by omega)] at e; exact e
    obtain ⟨k1, k2⟩ := I.mks j (by omega) hj hd hlj x p h1 h2 e'
    refine ⟨fun ob ho => ?_, fun y q ey er => ?_⟩
    · rw [same x p (by omega) e']
      exact (k1 ob ho).mono (Phi.cut_cut hle (Nat.le_refl _))
    · rcases cls y q ey with ⟨h, h'⟩ | ⟨_, h', _⟩
      · exact absurd er (sep y q x p h' (by omega) e')
      · exact k2 y q h' er
  · rw [li_set hls] at hl
    have hjm : j ≠ m := fun e => hl (.inl e)
    have hold := I.own j hj (fun h => hl (.inr h)) x h1 h2
    cases h3 : φ'' x with
    | none => rfl
    | some p =>
      rcases cls x p h3 with ⟨h, h'⟩ | ⟨_, h', _⟩
      · rcases Nat.lt_or_ge j m with hj2 | hj2
        · rcases hg.new x p h' with h4 | ⟨h4, _⟩
          · rw [(Phi.cut_some.1 h4).2] at hold; cases hold
          · have := (T.mono hkp (i := j + 1) (j := m) (by omega) (by omega)).1; omega
        · have := (T.mono hkp (i := m + 1) (j := j) (by omega) (by omega)).1; omega
      · rw [h'] at hold; cases hold
  · have n0 : s.h.n ≤ (σ m).h.n := by
      have := (T.mono hkp (i := 0) (j := m) (by omega) (by omega)).1
      rwa [T.s0] at this
    have hstep : Went φ' (σ m).h.n lw w' φ'' w1 := ⟨hle, fun b p e => by
      rcases cls b p e with ⟨_, h⟩ | ⟨_, h, _⟩
      · rcases hg.new b p h with h | ⟨h1, h2 | ⟨b0, p0, g1, g2, g3⟩⟩
        · exact .inl (Phi.cut_some.1 h).2
        · exact .inr ⟨h1, .inl h2⟩
        · exact .inr ⟨h1, .inr ⟨b0, p0, g1, (Phi.cut_some.1 g2).2, g3⟩⟩
      · exact .inl h, hg.os, hg.tape, hg.output, hg.size, fun r hr' h => hg.fr r hr' fun b p h1 h2 => h b p h1 (Phi.cut_some.1 h2).2⟩
    exact I.went.trans hstep n0 (Nat.le_refl _) hlw
end
end Go.Proofs.YthffbfkcmbgghaaGreat.Cm
