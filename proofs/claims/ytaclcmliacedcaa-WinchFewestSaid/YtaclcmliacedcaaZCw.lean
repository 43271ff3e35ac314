/-
  The clean machine and the model: a region that draws its order.
-/
import Derived.Test.YtaclcmliacedcaaZCv
import Derived.StillTail
set_option linter.all false
namespace Go.Proofs.Ytaclcmliacedcaa.Cm
open Go Go.RowKit
variable [Env]

section
variable {P : Program} {run : Runs} {ops : Array Oper} {s s' : St} {σ : Nat → St} {D : Nat → Did} {bf : Nat → Nat → Prop}
theorem HR.still {φ : Phi} {h : CH} {w w' : World} (hh : HR φ h w) (hsz : w.heap.size ≤ w'.heap.size) (hfr : ∀ r, r < w.heap.size → w'.heap[r]? = w.heap[r]?) : HR φ h w' :=
  ⟨fun b o p e1 e2 => by rw [hfr p.r (hh.lt b p e2).2]; exact hh.ob b o p e1 e2, hh.ap, fun b p e => ⟨(hh.lt b p e).1, Nat.lt_of_lt_of_le (hh.lt b p e).2 hsz⟩, hh.nw⟩
theorem HR.ext {φ : Phi} {h h' : CH} {w : World} (hh : HR φ h w) (hn : h.n ≤ h'.n) (hs : ∀ b, b < h.n → h'.get b = h.get b) (hw : ∀ b, h'.n ≤ b → h'.get b = none) : HR φ h' w :=
  ⟨fun b o p e1 e2 => hh.ob b o p (by rw [← hs b (hh.lt b p e2).1]; exact e1) e2,
   fun b b' o o' p p' e1 e1' e2 e2' => hh.ap b b' o o' p p' (by rw [← hs b (hh.lt b p e2).1]; exact e1) (by rw [← hs b' (hh.lt b' p' e2').1]; exact e1') e2 e2',
   fun b p e => ⟨Nat.lt_of_lt_of_le (hh.lt b p e).1 hn, (hh.lt b p e).2⟩, hw⟩
theorem next_writer (D : Nat → Did) (N : Nat) : ∀ (f k : Nat), k + f = N → ∃ m, k ≤ m ∧ m ≤ N ∧ (m = N ∨ D m = .wrote) ∧ ∀ j, k ≤ j → j < m → D j ≠ .wrote
  | 0, k, h => ⟨k, Nat.le_refl _, by omega, .inl (by omega), fun j h1 h2 => by omega⟩
  | f + 1, k, h => by
    by_cases hd : D k = .wrote
    · exact ⟨k, Nat.le_refl _, by omega, .inr hd, fun j h1 h2 => by omega⟩
    · obtain ⟨m, h1, h2, h3, h4⟩ := next_writer D N f (k + 1) (by omega)
      refine ⟨m, by omega, h2, h3, fun j g1 g2 => ?_⟩
      by_cases e : j = k
      · subst e; exact hd
      · exact h4 j (by omega) g2

def Li (listed : Array Bool) (i : Nat) : Prop := listed.getD i false = true
theorem li_set {listed : Array Bool} {i j : Nat} (hi : i < listed.size) : Li (listed.setIfInBounds i true) j ↔ (j = i ∨ Li listed j) := by
  unfold Li
  by_cases e : j = i
  · subst e
    simp [hi]
  · rw [getD_set_ne false (fun h => e h.symm)]; simp [e]
structure Inv (ops : Array Oper) (σ : Nat → St) (D : Nat → Did) (φ : Phi) (w : World) (a : Act) (s s' : St) (listed : Array Bool) (m : Nat) (φ' : Phi) (a' : Act) (w' : World) : Prop where
  sz : listed.size = ops.size
  down : ∀ i o, ops[i]? = some o → Li listed i → ∀ e ∈ o.after, Region.binds .any e = true → Li listed e.on
  m_le : m ≤ ops.size
  m_wr : m = ops.size ∨ D m = .wrote
  wr : ∀ i, i < ops.size → D i = .wrote → (Li listed i ↔ i < m)
  hr : ∀ k, k ≤ m → (∀ j, k ≤ j → j < m → D j ≠ .wrote) → HR (φ'.cut (σ k).h.n) (σ k).h w'
  dom : ∀ b p, φ' b = some p → b < (σ m).h.n
  own : ∀ j, j < ops.size → ¬ Li listed j → ∀ x, (σ j).h.n ≤ x → x < (σ (j + 1)).h.n → φ' x = none
  sl : ∀ t : Tmp, ∃ v, v ≤ ops.size ∧ (∀ u, v = u + 1 → ∃ o, ops[u]? = some o ∧ o.dst = some t) ∧ (∀ i o, ops[i]? = some o → o.dst = some t → (Li listed i ↔ i < v)) ∧ ∀ c, (σ v).ts.get t = some c → ∃ val, a'.tmps[t]? = some val ∧ VR (φ'.cut (σ v).h.n) c val
  size : a'.tmps.size = s.nt
  df : a'.defers = a.defers
  went : Went φ s.h.n s'.lw w φ' w'
variable {φ φ' : Phi} {w w' : World} {a a' : Act} {listed : Array Bool} {m : Nat}
/-- An operation that is ready. -/
structure Rdy (ops : Array Oper) (listed : Array Bool) (i : Nat) (o : Oper) : Prop where
  get : ops[i]? = some o
  un : ¬ Li listed i
  pre : ∀ e ∈ o.after, Region.binds .any e = true → Li listed e.on
theorem Rdy.lt {i : Nat} {o : Oper} (R : Rdy ops listed i o) : i < ops.size := (Array.getElem?_eq_some_iff.1 R.get).1
theorem bf_listed {nt : Nat} (W : Drawn ops nt D bf) (I : Inv ops σ D φ w a s s' listed m φ' a' w') {i j : Nat} {o : Oper} (R : Rdy ops listed i o) (h : bf i j) : j = i ∨ Li listed j := by
  have := W.down (fun x => x = i ∨ Li listed x) (fun x o' ho' hx e he hb => by
    rcases hx with rfl | hx
    · have : o' = o := Option.some.inj (ho'.symm.trans R.get)
      subst this
      exact .inr (R.pre e he hb)
    · exact .inr (I.down x o' ho' hx e he hb)) i j h (.inl rfl)
  exact this
theorem bf_down {nt : Nat} (W : Drawn ops nt D bf) (I : Inv ops σ D φ w a s s' listed m φ' a' w') {i j : Nat} (hi : Li listed i) (h : bf i j) : Li listed j :=
  W.down (Li listed) (fun x o ho hx e he hb => I.down x o ho hx e he hb) i j h hi
/-- A slot that is named reads as in the listed order. -/
theorem slot_read {nt : Nat} (T : Trace P run ops s s' σ D) (hkp : RunKp run) (W : Drawn ops nt D bf) (I : Inv ops σ D φ w a s s' listed m φ' a' w') {i : Nat} {o : Oper} (R : Rdy ops listed i o) {t : Tmp} (ht : t ∈ namesC ops o) :
    ∀ c, (σ i).ts.get t = some c → ∃ val, a'.tmps[t]? = some val ∧ VR (φ'.cut (σ i).h.n) c val := by
  obtain ⟨v, v1, v2, v3, v4⟩ := I.sl t
  have hi := R.lt
  have no1 : ∀ j o', v ≤ j → j < i → ops[j]? = some o' → o'.dst ≠ some t := fun j o' h1 h2 ho' hd => by
    have hb := W.slot i o j o' t R.get ho' hd ht (by omega)
    rw [Nat.max_eq_left (by omega), Nat.min_eq_right (by omega)] at hb
    rcases bf_listed W I R hb with e | hl
    · omega
    · have := (v3 j o' ho' hd).1 hl; omega
  have no2 : ∀ j o', i ≤ j → j < v → ops[j]? = some o' → o'.dst ≠ some t := fun j o' h1 h2 ho' hd => by
    have hl := (v3 j o' ho' hd).2 h2
    by_cases e : j = i
    · subst e; exact R.un hl
    · have hb := W.slot i o j o' t R.get ho' hd ht (by omega)
      rw [Nat.max_eq_right (by omega), Nat.min_eq_left (by omega)] at hb
      exact R.un (bf_down W I hl hb)
  have hvi : v ≤ i := by
    rcases Nat.lt_or_ge i v with h | h
    · obtain ⟨u, rfl⟩ : ∃ u, v = u + 1 := ⟨v - 1, by omega⟩
      obtain ⟨o', ho', hd⟩ := v2 u rfl
      exact absurd hd (no2 u o' (by omega) (by omega) ho')
    · exact h
  intro c hc
  rw [T.slot hvi (by omega) t (fun k o' h1 h2 ho' => no1 k o' h1 h2 ho')] at hc
  obtain ⟨val, h1, h2⟩ := v4 c hc
  exact ⟨val, h1, h2.mono (Phi.cut_cut (Phi.le_refl _) (T.mono hkp hvi (by omega)).1)⟩
theorem tmps_put (a' : Act) (d : Option Tmp) (v : Value) (t : Tmp) (h : d ≠ some t) : (a'.put d v).tmps[t]? = a'.tmps[t]? := by
  cases d with
  | none => rfl
  | some d =>
    show (a'.tmps.setIfInBounds d v)[t]? = _
    rw [Array.getElem?_setIfInBounds, if_neg (fun e => h (by rw [e]))]
/-- Slots after an operation. -/
theorem slots_adv {nt : Nat} (W : Drawn ops nt D bf) (I : Inv ops σ D φ w a s s' listed m φ' a' w') (hnt : s.nt = nt) {i : Nat} {o : Oper} (R : Rdy ops listed i o) {φ'' : Phi} (hle : φ'.le φ'') {val : Value} (hv : ∀ d, o.dst = some d → ∀ c, (σ (i + 1)).ts.get d = some c → VR (φ''.cut (σ (i + 1)).h.n) c val) :
    ∀ t : Tmp, ∃ v, v ≤ ops.size ∧ (∀ u, v = u + 1 → ∃ o, ops[u]? = some o ∧ o.dst = some t) ∧ (∀ j o', ops[j]? = some o' → o'.dst = some t → (Li (listed.setIfInBounds i true) j ↔ j < v)) ∧ ∀ c, (σ v).ts.get t = some c → ∃ x, (a'.put o.dst val).tmps[t]? = some x ∧ VR (φ''.cut (σ v).h.n) c x := by
  intro t
  have hi := R.lt
  have hsz : i < listed.size := by rw [I.sz]; exact hi
  by_cases hd : o.dst = some t
  · refine ⟨i + 1, by omega, fun u hu => ?_, fun j o' ho' hd' => ?_, fun c hc => ?_⟩
    · obtain rfl : u = i := by omega
      exact ⟨o, R.get, hd⟩
    · rw [li_set hsz]
      have hname : t ∈ namesC ops o := by unfold namesC; rw [hd]; simp
      constructor
      · rintro (rfl | hl)
        · omega
        · rcases Nat.lt_or_ge j (i + 1) with h | h
          · exact h
          · have hb := W.slot i o j o' t R.get ho' hd' hname (by omega)
            rw [Nat.max_eq_right (by omega), Nat.min_eq_left (by omega)] at hb
            exact absurd (bf_down W I hl hb) R.un
      · intro h
        by_cases e : j = i
        · exact .inl e
        · have hb := W.slot i o j o' t R.get ho' hd' hname (by omega)
          rw [Nat.max_eq_left (by omega), Nat.min_eq_right (by omega)] at hb
          exact bf_listed W I R hb
    · refine ⟨val, ?_, hv t hd c hc⟩
      rw [hd]
      show (a'.tmps.setIfInBounds t val)[t]? = some val
      have hlt : t < a'.tmps.size := by rw [I.size, hnt]; exact W.dst i o t R.get hd
      rw [Array.getElem?_setIfInBounds, if_pos rfl, if_pos hlt]
  · obtain ⟨v, v1, v2, v3, v4⟩ := I.sl t
    refine ⟨v, v1, v2, fun j o' ho' hd' => ?_, fun c hc => ?_⟩
    · rw [li_set hsz, ← v3 j o' ho' hd']
      constructor
      · rintro (rfl | h)
        · have : o' = o := Option.some.inj (ho'.symm.trans R.get)
          subst this; exact absurd hd' hd
        · exact h
      · exact .inr
    · obtain ⟨x, h1, h2⟩ := v4 c hc
      exact ⟨x, by rw [tmps_put a' o.dst val t hd]; exact h1, h2.mono (Phi.cut_cut hle (Nat.le_refl _))⟩
theorem down_adv (I : Inv ops σ D φ w a s s' listed m φ' a' w') {i : Nat} {o : Oper} (R : Rdy ops listed i o) : ∀ j o', ops[j]? = some o' → Li (listed.setIfInBounds i true) j → ∀ e ∈ o'.after, Region.binds .any e = true → Li (listed.setIfInBounds i true) e.on := by
  have hsz : i < listed.size := by rw [I.sz]; exact R.lt
  intro j o' ho' hl e he hb
  rw [li_set hsz] at hl ⊢
  rcases hl with rfl | hl
  · have : o' = o := Option.some.inj (ho'.symm.trans R.get)
    subst this
    exact .inr (R.pre e he hb)
  · exact .inr (I.down j o' ho' hl e he hb)
theorem put_size (a' : Act) (d : Option Tmp) (v : Value) : (a'.put d v).tmps.size = a'.tmps.size ∧ (a'.put d v).defers = a'.defers := by
  cases d <;> simp [Act.put]
/-- An operation that wrote no old memory was made. -/
theorem adv_pure {nt : Nat} (T : Trace P run ops s s' σ D) (hkp : RunKp run) (W : Drawn ops nt D bf) (I : Inv ops σ D φ w a s s' listed m φ' a' w') (hnt : s.nt = nt) {i : Nat} {o : Oper} (R : Rdy ops listed i o) (hD : D i ≠ .wrote) {φ'' : Phi} {w1 : World} {val : Value} (hle : φ'.le φ'')
    (hnew : ∀ x p, φ'' x = some p → φ' x = some p ∨ ((σ i).h.n ≤ x ∧ x < (σ (i + 1)).h.n ∧ w'.heap.size ≤ p.r)) (hos : w1.os = w'.os) (htp : w1.tape = w'.tape) (hou : w1.output = w'.output) (hsz : w'.heap.size ≤ w1.heap.size) (hfr : ∀ r, r < w'.heap.size → w1.heap[r]? = w'.heap[r]?)
    (hr : ∀ k, i < k → k ≤ m → (∀ j, k ≤ j → j < m → D j ≠ .wrote) → HR (φ''.cut (σ k).h.n) (σ k).h w1) (hdom : ∀ b p, φ'' b = some p → b < (σ m).h.n) (hv : ∀ d, o.dst = some d → ∀ c, (σ (i + 1)).ts.get d = some c → VR (φ''.cut (σ (i + 1)).h.n) c val) :
    Inv ops σ D φ w a s s' (listed.setIfInBounds i true) m φ'' (a'.put o.dst val) w1 := by
  have hi := R.lt
  have hls : i < listed.size := by rw [I.sz]; exact hi
  obtain ⟨p1, p2⟩ := put_size a' o.dst val
  refine ⟨by simp [I.sz], down_adv I R, I.m_le, I.m_wr, fun j hj hd => ?_, fun k hk hs => ?_, hdom, fun j hj hl x h1 h2 => ?_, slots_adv W I hnt R hle hv, by rw [p1]; exact I.size, by rw [p2]; exact I.df, ?_⟩
  · rw [li_set hls, ← I.wr j hj hd]
    constructor
    · rintro (rfl | h)
      · exact absurd hd hD
      · exact h
    · exact .inr
  · rcases Nat.lt_or_ge i k with h | h
    · exact hr k h hk hs
    · have e : φ''.cut (σ k).h.n = φ'.cut (σ k).h.n := by
        funext b
        unfold Phi.cut
        by_cases hb : b < (σ k).h.n
        · rw [if_pos hb, if_pos hb]
          cases h1 : φ' b with
          | some p => exact hle b p h1
          | none =>
            cases h2 : φ'' b with
            | none => rfl
            | some p =>
              rcases hnew b p h2 with h3 | ⟨h3, _⟩
              · rw [h1] at h3; cases h3
              · have := (T.mono hkp h (by omega)).1; omega
        · rw [if_neg hb, if_neg hb]
      rw [e]
      exact (I.hr k hk hs).still hsz hfr
  · rw [li_set hls] at hl
    have hji : j ≠ i := fun e => hl (.inl e)
    have hold := I.own j hj (fun h => hl (.inr h)) x h1 h2
    cases h3 : φ'' x with
    | none => rfl
    | some p =>
      rcases hnew x p h3 with h4 | ⟨h4, h5, _⟩
      · rw [hold] at h4; cases h4
      · rcases Nat.lt_or_ge j i with h | h
        · have := (T.mono hkp (i := j + 1) (j := i) (by omega) (by omega)).1; omega
        · have := (T.mono hkp (i := i + 1) (j := j) (by omega) (by omega)).1; omega
  · have n0 : s.h.n ≤ (σ i).h.n := by
      have := (T.mono hkp (i := 0) (j := i) (by omega) (by omega)).1
      rwa [T.s0] at this
    have hstep : Went φ' s.h.n s'.lw w' φ'' w1 := ⟨hle, fun b p e => by
      rcases hnew b p e with h | ⟨h1, _, h2⟩
      · exact .inl h
      · exact .inr ⟨by omega, .inl h2⟩, hos, htp, hou, hsz, fun r hr' _ => hfr r hr'⟩
    exact I.went.trans hstep (Nat.le_refl _) (Nat.le_refl _) (Nat.le_refl _)
/-- An operation that wrote old memory was made. -/
theorem adv_write {nt : Nat} (T : Trace P run ops s s' σ D) (hkp : RunKp run) (hwf : ∀ b, (σ 0).h.n ≤ b → (σ 0).h.get b = none) (W : Drawn ops nt D bf) (I : Inv ops σ D φ w a s s' listed m φ' a' w') (hnt : s.nt = nt) {o : Oper} (R : Rdy ops listed m o) (hD : D m = .wrote) {φ'' : Phi} {w1 : World} {val : Value} {lw : Nat} (hlw : s'.lw ≤ lw)
    (hg : Went φ' (σ m).h.n lw w' φ'' w1) (hr : HR φ'' (σ (m + 1)).h w1) (hv : ∀ d, o.dst = some d → ∀ c, (σ (m + 1)).ts.get d = some c → VR φ'' c val) :
    ∃ m', Inv ops σ D φ w a s s' (listed.setIfInBounds m true) m' φ'' (a'.put o.dst val) w1 := by
  have hi := R.lt
  have hls : m < listed.size := by rw [I.sz]; exact hi
  obtain ⟨p1, p2⟩ := put_size a' o.dst val
  obtain ⟨m', q1, q2, q3, q4⟩ := next_writer D ops.size (ops.size - (m + 1)) (m + 1) (by omega)
  have hd1 : ∀ b p, φ'' b = some p → b < (σ (m + 1)).h.n := fun b p e => (hr.lt b p e).1
  refine ⟨m', by simp [I.sz], down_adv I R, q2, q3, fun j hj hd => ?_, fun k hk hs => ?_, fun b p e => Nat.lt_of_lt_of_le (hd1 b p e) (T.mono hkp q1 q2).1, fun j hj hl x h1 h2 => ?_, slots_adv W I hnt R hg.le (fun d hd c hc => by rw [Phi.cut_eq hd1]; exact hv d hd c hc), by rw [p1]; exact I.size, by rw [p2]; exact I.df, ?_⟩
  · rw [li_set hls, I.wr j hj hd]
    constructor
    · rintro (rfl | h) <;> omega
    · intro h
      rcases Nat.lt_or_ge j (m + 1) with h1 | h1
      · omega
      · exact absurd hd (q4 j h1 h)
  · have hmk : m + 1 ≤ k := by
      rcases Nat.lt_or_ge m k with h | h
      · exact h
      · exact absurd hD (hs m h (by omega))
    have n1 := (T.mono hkp hmk (by omega)).1
    rw [Phi.cut_eq (fun b p e => Nat.lt_of_lt_of_le (hd1 b p e) n1)]
    exact hr.ext n1 (T.seg hkp hmk (by omega) fun x h1 h2 => q4 x h1 (by omega)) (T.wf hkp (by omega) hwf)
  · rw [li_set hls] at hl
    have hjm : j ≠ m := fun e => hl (.inl e)
    cases h3 : φ'' x with
    | none => rfl
    | some p =>
      rcases Nat.lt_or_ge j m with h | h
      · rcases hg.new x p h3 with h4 | ⟨h4, _⟩
        · rw [I.own j hj (fun h => hl (.inr h)) x h1 h2] at h4; cases h4
        · have := (T.mono hkp (i := j + 1) (j := m) (by omega) (by omega)).1; omega
      · have := (T.mono hkp (i := m + 1) (j := j) (by omega) (by omega)).1
        have := hd1 x p h3
        omega
  · have n0 : s.h.n ≤ (σ m).h.n := by
      have := (T.mono hkp (i := 0) (j := m) (by omega) (by omega)).1
      rwa [T.s0] at this
    exact I.went.trans hg n0 (Nat.le_refl _) hlw
end
end Go.Proofs.Ytaclcmliacedcaa.Cm
