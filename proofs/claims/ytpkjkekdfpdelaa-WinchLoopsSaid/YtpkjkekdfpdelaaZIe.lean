/-
  The law of loops, as a Lean function, is true.
-/
import Derived.Test.YtpkjkekdfpdelaaZIb
import Derived.Test.YtpkjkekdfpdelaaZJb
set_option linter.all false
namespace Go.Proofs.Ytpkjkekdfpdelaa
open Go Go.RowKit

theorem loop_inv {α σ ε τ : Type} (l : List α) (L : Nat → Nat → σ → Option τ) (f : Nat → α → σ → ε ⊕ σ) (out : ε ⊕ σ → τ) (I : Nat → σ → Prop)
    (hend : ∀ n s, I l.length s → L (n + 1) l.length s = some (out (.inr s)))
    (hstep : ∀ n i e s, l[i]? = some e → I i s → L (n + 1) i s = match f i e s with | .inl x => some (out (.inl x)) | .inr s' => L n (i + 1) s')
    (hI : ∀ i e s s', l[i]? = some e → I i s → f i e s = .inr s' → I (i + 1) s') :
    ∀ n i s, I i s → i ≤ l.length → l.length - i < n → L n i s = some (out (runF f (l.drop i) i s))
  | 0, i, s, _, _, h => by omega
  | n + 1, i, s, hi0, hi, h => by
    rcases Nat.lt_or_ge i l.length with h1 | h1
    · have he : l[i]? = some l[i] := List.getElem?_eq_getElem h1
      rw [hstep n i _ s he hi0, List.drop_eq_getElem_cons h1, runF]
      cases hf : f i l[i] s with
      | inl x => rfl
      | inr s' => exact loop_inv l L f out I hend hstep hI n (i + 1) s' (hI i _ s s' he hi0 hf) (by omega) (by omega)
    · have : i = l.length := by omega
      subst this
      rw [hend n s hi0, List.drop_of_length_le (Nat.le_refl _), runF]
def badI (p : Int → Bool) : List Int → Nat → Option Nat
  | [], _ => none
  | e :: r, i => if p e = true then badI p r (i + 1) else some i
theorem runF_bad {p : Int → Bool} {ε : Type} {g : Nat → ε} : ∀ (l : List Int) (i : Nat), runF (fun i (e : Int) (_ : Unit) => if p e = true then (.inr () : ε ⊕ Unit) else .inl (g i)) l i () = match badI p l i with | none => .inr () | some j => .inl (g j)
  | [], _ => rfl
  | a :: r, i => by
    unfold runF badI
    cases ha : p a with
    | true => simp only [if_true]; exact runF_bad r (i + 1)
    | false => simp only [Bool.false_eq_true, if_false]
theorem badI_none {p : Int → Bool} : ∀ {l : List Int} {i : Nat}, badI p l i = none → ∀ x ∈ l, p x = true
  | [], _, _, x, hx => by cases hx
  | a :: r, i, h, x, hx => by
    unfold badI at h
    cases ha : p a with
    | true =>
      rw [ha, if_pos rfl] at h
      rcases List.mem_cons.1 hx with rfl | hx
      · exact ha
      · exact badI_none h x hx
    | false => rw [ha] at h; simp at h
def ten (x : Int) : Bool := decide (-10 ≤ x ∧ x ≤ 10)
/-- The error of a loop, with an index. -/
def loopE (T : List Int) (lo hi tu sl : Int) : Int × Int :=
  if Int.tmod (T.length : Int) 2 = 0 then (0, 10) else if 11 < (T.length : Int) then (0, 8) else match badI ten T 0 with
    | some j => ((j : Int), 2)
    | none => if (-4 ≤ lo ∧ lo ≤ 4) ∧ (-4 ≤ hi ∧ hi ≤ 4) ∧ (0 ≤ tu ∧ tu ≤ 8) ∧ (0 ≤ sl ∧ sl ≤ 20) then (if lo ≤ 0 ∧ 0 ≤ hi then (0, 0) else (0, 9)) else (0, 2)
theorem wLoop_eq (fu : Nat) (hf : 100 ≤ fu) (T : List Int) (lo hi tu sl : Int) (hT : T.length ≤ 13) : w_CheckLoop fu T lo hi tu sl = some (loopE T lo hi tu sl) := by
  have one : ∀ e : Int, w_CheckLoop_1 fu e = some (if ten e = true then 0 else 2) := fun e => by
    unfold w_CheckLoop_1
    rw [sizeE_eq fu _ _ (by simp; omega) (by simp) (by omega) (by omega), Option.bind_some]
    unfold sizeE ten
    simp only [List.all_cons, List.all_nil, Bool.and_true]
  have loop := loop_run T (fun n i _ => u_FirstBad_int_CheckLoop_1_L1 fu T (T.length : Int) n (i : Int)) (fun i (e : Int) (_ : Unit) => if ten e = true then (.inr () : (Int × Int) ⊕ Unit) else .inl ((fun (i : Nat) => ((i : Int), (2 : Int))) i)) id
    (fun n s => by rw [u_FirstBad_int_CheckLoop_1_L1, if_neg (by omega)]; rfl)
    (fun n i e s he => by
      obtain ⟨h1, h2, h3⟩ := idx he
      rw [u_FirstBad_int_CheckLoop_1_L1, if_pos h1, if_pos h2, if_pos h1, h3, Option.bind_some, one, Option.bind_some]
      by_cases h0 : ten e = true
      · simp only [h0, if_true]; rw [wrapS (by omega)]
      · simp only [h0, if_false, Bool.false_eq_true]; rfl) fu 0 () (by omega) (by omega)
  rw [show ((0 : Nat) : Int) = 0 from rfl, List.drop_zero, runF_bad] at loop
  unfold w_CheckLoop u_FirstBad_int_CheckLoop_1 loopE w_loop_permits
  by_cases h2 : Int.tmod (T.length : Int) 2 = 0
  · rw [if_pos h2, if_pos h2]
  · rw [if_neg h2, if_neg h2]
    by_cases h11 : 11 < (T.length : Int)
    · rw [if_pos h11, if_pos h11]
    · rw [if_neg h11, if_neg h11, loop]
      cases hb : badI ten T 0 with
      | some j => rfl
      | none =>
        simp only [id, Option.bind_some, if_true]
        rw [sizeE_eq fu _ _ (by simp; omega) (by simp) (by omega) (by omega), Option.bind_some, limit_eq, Option.bind_some, limit_eq, Option.bind_some, firstE_eq fu _ (by simp; omega) (by simp), Option.bind_some]
        by_cases hr : (-4 ≤ lo ∧ lo ≤ 4) ∧ (-4 ≤ hi ∧ hi ≤ 4) ∧ (0 ≤ tu ∧ tu ≤ 8) ∧ (0 ≤ sl ∧ sl ≤ 20)
        · have e1 : sizeE 4 [lo, hi] = 0 := by unfold sizeE; simp only [List.all_cons, List.all_nil, hr.1, hr.2.1, decide_true, Bool.and_true, if_true, and_self]
          rw [e1, limE_zero.2 hr.2.2.1, limE_zero.2 hr.2.2.2, if_pos hr, show firstE [0, 0, 0] = 0 from rfl, if_pos rfl]
          by_cases k1 : lo ≤ 0
          · by_cases k2 : 0 ≤ hi
            · simp [k1, k2]
            · simp [k1, k2]
          · simp [k1]
        · rw [if_neg hr]
          have : firstE [sizeE 4 [lo, hi], limE tu 0 8, limE sl 0 20] = 2 := by
            by_cases a1 : (-4 ≤ lo ∧ lo ≤ 4) ∧ (-4 ≤ hi ∧ hi ≤ 4)
            · have e1 : sizeE 4 [lo, hi] = 0 := by unfold sizeE; simp only [List.all_cons, List.all_nil, a1.1, a1.2, decide_true, Bool.and_true, if_true, and_self]
              rw [e1]
              by_cases a2 : 0 ≤ tu ∧ tu ≤ 8
              · rw [limE_zero.2 a2, limE_two (a := sl) (fun a3 => hr ⟨a1.1, a1.2, a2, a3⟩)]; rfl
              · rw [limE_two a2]; rfl
            · have e1 : sizeE 4 [lo, hi] = 2 := by
                unfold sizeE
                rw [if_neg]
                simp only [List.all_cons, List.all_nil, Bool.and_true, Bool.and_eq_true, decide_eq_true_eq]
                exact a1
              rw [e1]; rfl
          rw [this, if_neg (by omega)]
theorem rLoop_eq (fu : Nat) (hf : 100 ≤ fu) (T : List Int) (lo hi tu sl : Int) (hT : T.length ≤ 13) : r2_CheckLoop fu T lo hi tu sl = some (loopE T lo hi tu sl) := by
  have loop := loop_run T (fun n i _ => r2_CheckLoop_L1 fu T lo hi tu sl n (i : Int)) (fun i (e : Int) (_ : Unit) => if ten e = true then (.inr () : Int ⊕ Unit) else .inl ((fun (i : Nat) => (i : Int)) i)) id
    (fun n s => by rw [r2_CheckLoop_L1, if_neg (by omega)]; rfl)
    (fun n i e s he => by
      obtain ⟨h1, h2, h3⟩ := idx he
      rw [r2_CheckLoop_L1, if_pos h1, if_pos h2, h3, Option.bind_some, within_eq, Option.bind_some]
      by_cases h0 : ten e = true
      · have h0' : decide (-10 ≤ e ∧ e ≤ 10) = true := h0
        simp only [h0, h0', if_true]; rw [wrapS (by omega)]
      · have h0' : ¬ decide (-10 ≤ e ∧ e ≤ 10) = true := h0
        simp only [h0, h0', if_false, Bool.false_eq_true]; rfl) fu 0 () (by omega) (by omega)
  rw [show ((0 : Nat) : Int) = 0 from rfl, List.drop_zero, runF_bad] at loop
  unfold r2_CheckLoop loopE
  by_cases h2 : Int.tmod (T.length : Int) 2 = 0
  · rw [if_pos h2, if_pos h2]
  · rw [if_neg h2, if_neg h2]
    by_cases h11 : 11 < (T.length : Int)
    · rw [if_pos h11, if_pos h11]
    · rw [if_neg h11, if_neg h11, loop]
      cases hb : badI ten T 0 with
      | some j => rfl
      | none =>
        simp only [id, Option.bind_some, within_eq]
        by_cases k1 : -4 ≤ lo ∧ lo ≤ 4
        · by_cases k2 : -4 ≤ hi ∧ hi ≤ 4
          · by_cases k3 : 0 ≤ tu ∧ tu ≤ 8
            · by_cases k4 : 0 ≤ sl ∧ sl ≤ 20
              · simp only [k1, k2, k3, k4, decide_true, and_self, if_true]
                by_cases k5 : 0 < lo
                · rw [if_pos k5, if_neg (by omega)]
                · by_cases k6 : hi < 0
                  · rw [if_neg k5, if_pos k6, if_neg (by omega)]
                  · rw [if_neg k5, if_neg k6, if_pos (by omega)]
              · simp only [k1, k2, k3, k4, decide_true, decide_false, and_self, and_false, if_true, if_false, Bool.false_eq_true]
            · simp only [k1, k2, k3, decide_true, decide_false, and_self, and_false, false_and, if_true, if_false, Bool.false_eq_true]
          · simp only [k1, k2, decide_true, decide_false, and_self, and_false, false_and, if_true, if_false, Bool.false_eq_true]
        · simp only [k1, decide_false, false_and, if_false, Bool.false_eq_true]
/-- A valid loop. -/
structure Lp (T : List Int) (lo hi tu sl : Int) (B : Int) : Prop where
  len : (T.length : Int) = 2 * B + 1
  b0 : 0 ≤ B ∧ B ≤ 5
  tab : ∀ x ∈ T, -10 ≤ x ∧ x ≤ 10
  lo4 : -4 ≤ lo ∧ lo ≤ 0
  hi4 : 0 ≤ hi ∧ hi ≤ 4
  tu8 : 0 ≤ tu ∧ tu ≤ 8
  sl20 : 0 ≤ sl ∧ sl ≤ 20
theorem loopE_ok {T : List Int} {lo hi tu sl : Int} (h : (loopE T lo hi tu sl).2 = 0) : Lp T lo hi tu sl ((T.length / 2 : Nat) : Int) := by
  unfold loopE at h
  split at h
  · cases h
  · rename_i h2
    split at h
    · cases h
    · rename_i h11
      split at h
      · cases h
      · rename_i hb
        split at h
        · rename_i hr
          split at h
          · rename_i h0
            have hm : Int.tmod (T.length : Int) 2 = ((T.length % 2 : Nat) : Int) := by rw [Int.tmod_eq_emod_of_nonneg (by omega)]; rfl
            rw [hm] at h2
            refine ⟨by omega, ⟨by omega, by omega⟩, fun x hx => ?_, ⟨hr.1.1, h0.1⟩, ⟨h0.2, hr.2.1.2⟩, hr.2.2.1, hr.2.2.2⟩
            have := badI_none hb x hx
            simpa [ten] using this
          · cases h
        · cases h
def B2 (T : List Int) : Int := ((T.length / 2 : Nat) : Int)
theorem rBound_eq (T : List Int) (lo hi tu sl : Int) (hT : T.length ≤ 13) : r2_Bound T lo hi tu sl = some (B2 T) := by
  unfold r2_Bound B2
  rw [show Int.tdiv (T.length : Int) 2 = ((T.length / 2 : Nat) : Int) by rw [Int.tdiv_eq_ediv_of_nonneg (by omega)]; rfl, wrapB (by omega) (by omega)]
theorem wBound_eq (T : List Int) (lo hi tu sl : Int) (hT : T.length ≤ 13) (B : Int) (hB : (T.length : Int) = 2 * B + 1) : w_loop_bound T lo hi tu sl = some B := by
  unfold w_loop_bound
  rw [wrapB (x := (T.length : Int) - 1) (by omega) (by omega), show (T.length : Int) - 1 = 2 * B by omega, Int.tdiv_eq_ediv_of_nonneg (by omega), wrapB (by omega) (by omega)]
  congr 1; omega
theorem wBound_any (T : List Int) (lo hi tu sl : Int) (hT : T.length ≤ 13) : ∃ m, w_loop_bound T lo hi tu sl = some m ∧ 0 ≤ m ∧ m ≤ 100 := by
  unfold w_loop_bound
  rw [wrapB (x := (T.length : Int) - 1) (by omega) (by omega)]
  by_cases h : T.length = 0
  · refine ⟨_, rfl, ?_⟩
    rw [h]; decide
  · rw [Int.tdiv_eq_ediv_of_nonneg (by omega), wrapB (by omega) (by omega)]
    exact ⟨_, rfl, by omega, by omega⟩
def okS (B lo hi e c h : Int) : Prop := (-B ≤ e ∧ e ≤ B) ∧ (-10 ≤ c ∧ c ≤ 10) ∧ (lo ≤ h ∧ h ≤ hi)
instance (B lo hi e c h : Int) : Decidable (okS B lo hi e c h) := by unfold okS; infer_instance
theorem size1 {m x : Int} : sizeE m [x] = if -m ≤ x ∧ x ≤ m then 0 else 2 := by
  unfold sizeE
  simp only [List.all_cons, List.all_nil, Bool.and_true, decide_eq_true_eq]
theorem wState_eq (fu : Nat) (hf : 100 ≤ fu) (T : List Int) (lo hi tu sl e c h : Int) (B : Int) (hB : w_loop_bound T lo hi tu sl = some B) (h0 : 0 ≤ B ∧ B ≤ 100) : w_loop_stateError fu T lo hi tu sl e c h = some (if okS B lo hi e c h then 0 else 2) := by
  unfold w_loop_stateError
  rw [hB, Option.bind_some, sizeE_eq fu _ _ (by simp; omega) (by simp) (by omega) (by omega), Option.bind_some, sizeE_eq fu _ _ (by simp; omega) (by simp) (by omega) (by omega), Option.bind_some, limit_eq, Option.bind_some, firstE_eq fu _ (by simp; omega) (by simp), Option.bind_some, size1, size1]
  by_cases k1 : -B ≤ e ∧ e ≤ B
  · by_cases k2 : -10 ≤ c ∧ c ≤ 10
    · by_cases k3 : lo ≤ h ∧ h ≤ hi
      · rw [if_pos k1, if_pos k2, limE_zero.2 k3, if_pos (show okS B lo hi e c h from ⟨k1, k2, k3⟩)]; rfl
      · rw [if_pos k1, if_pos k2, limE_two k3, if_neg (fun q : okS B lo hi e c h => k3 q.2.2)]; rfl
    · rw [if_pos k1, if_neg k2, if_neg (fun q : okS B lo hi e c h => k2 q.2.1)]; rfl
  · rw [if_neg k1, if_neg (fun q : okS B lo hi e c h => k1 q.1)]; rfl
theorem rState_eq (T : List Int) (lo hi tu sl e c h : Int) (hT : T.length ≤ 13) : r2_StateErr T lo hi tu sl e c h = some (if okS (B2 T) lo hi e c h then 0 else 2) := by
  unfold r2_StateErr
  rw [rBound_eq T lo hi tu sl hT, Option.bind_some, wrapB (x := 0 - B2 T) (by unfold B2; omega) (by unfold B2; omega), show 0 - B2 T = -B2 T by omega]
  simp only [within_eq, Option.bind_some]
  by_cases k1 : -B2 T ≤ e ∧ e ≤ B2 T
  · by_cases k2 : -10 ≤ c ∧ c ≤ 10
    · by_cases k3 : lo ≤ h ∧ h ≤ hi
      · rw [if_pos (show okS (B2 T) lo hi e c h from ⟨k1, k2, k3⟩)]
        simp only [k1, k2, k3, decide_true, and_self, if_true]
      · rw [if_neg (fun q : okS (B2 T) lo hi e c h => k3 q.2.2)]
        simp only [k1, k2, k3, decide_true, decide_false, and_self, if_true, if_false, Bool.false_eq_true]
    · rw [if_neg (fun q : okS (B2 T) lo hi e c h => k2 q.2.1)]
      simp only [k1, k2, decide_true, decide_false, and_self, if_true, if_false, Bool.false_eq_true]
  · rw [if_neg (fun q : okS (B2 T) lo hi e c h => k1 q.1)]
    simp only [k1, decide_false, if_false, Bool.false_eq_true]
def cmdE (c sl w : Int) : Int := if w < c - sl then c - sl else if c + sl < w then c + sl else w
theorem cmdE_lo {c sl w : Int} (h : w ≤ c - sl) (h0 : 0 ≤ sl) : cmdE c sl w = c - sl := by
  unfold cmdE
  by_cases g : w < c - sl
  · rw [if_pos g]
  · rw [if_neg g]
    by_cases g2 : c + sl < w
    · omega
    · rw [if_neg g2]; omega
theorem cmdE_hi {c sl w : Int} (h : c + sl ≤ w) (h0 : 0 ≤ sl) : cmdE c sl w = c + sl := by
  unfold cmdE
  by_cases g : w < c - sl
  · omega
  · rw [if_neg g]
    by_cases g2 : c + sl < w
    · rw [if_pos g2]
    · rw [if_neg g2]; omega
theorem cmdE_mid {c sl w : Int} (h : c - sl ≤ w) (h' : w ≤ c + sl) : cmdE c sl w = w := by
  unfold cmdE
  rw [if_neg (by omega), if_neg (by omega)]
/-- The next state, and an error. -/
def stepE (T : List Int) (B lo hi tu sl e c h x : Int) : Int × Int × Int × Int :=
  if lo ≤ x ∧ x ≤ hi then (if -tu ≤ x - h ∧ x - h ≤ tu then
    (if -B ≤ e + x - cmdE c sl (T.getD (e + B).toNat 0) ∧ e + x - cmdE c sl (T.getD (e + B).toNat 0) ≤ B then (e + x - cmdE c sl (T.getD (e + B).toNat 0), cmdE c sl (T.getD (e + B).toNat 0), x, 0) else (0, 0, 0, 22)) else (0, 0, 0, 13)) else (0, 0, 0, 6)
section
variable {T : List Int} {lo hi tu sl B : Int} (H : Lp T lo hi tu sl B) {e c h : Int} (S : okS B lo hi e c h)
include H S
theorem tabAt : ∃ w, T[0 + (e + B).toNat]? = some w ∧ T.getD (e + B).toNat 0 = w ∧ -10 ≤ w ∧ w ≤ 10 := by
  have h1 := H.len
  have h2 := S.1
  have hlt : (e + B).toNat < T.length := by omega
  have he : T[(e + B).toNat]? = some T[(e + B).toNat] := List.getElem?_eq_getElem hlt
  refine ⟨_, by rw [Nat.zero_add]; exact he, by rw [List.getD_eq_getElem?_getD, he]; rfl, H.tab _ (List.getElem_mem hlt)⟩
theorem cmdE_range {w : Int} (hw : -10 ≤ w ∧ w ≤ 10) : -10 ≤ cmdE c sl w ∧ cmdE c sl w ≤ 10 := by
  have h2 := S.2.1
  have h3 := H.sl20
  unfold cmdE
  split
  · omega
  · split <;> omega
theorem wStep_eq (x : Int) : w_loop_step T lo hi tu sl e c h x = some (stepE T B lo hi tu sl e c h x) := by
  have l1 := H.len
  have b0 := H.b0
  have lo4 := H.lo4
  have hi4 := H.hi4
  have tu8 := H.tu8
  have sl20 := H.sl20
  obtain ⟨s1, s2, s3⟩ := S
  have hbd := wBound_eq T lo hi tu sl (by omega) B l1
  obtain ⟨w, q1, q2, q3⟩ := tabAt H ⟨s1, s2, s3⟩
  have qc := cmdE_range H ⟨s1, s2, s3⟩ q3
  unfold w_loop_step w_loop_permits stepE
  by_cases k1 : lo ≤ x ∧ x ≤ hi
  · rw [if_pos k1, if_pos k1.1, if_pos k1.2, Option.bind_some, if_pos rfl, wrapB (x := x - h) (by omega) (by omega), uwithin_eq _ _ (by omega) (by omega), Option.bind_some]
    by_cases k2 : -tu ≤ x - h ∧ x - h ≤ tu
    · rw [if_pos (by simpa using k2), if_pos k2]
      have hn : w_loop_next T lo hi tu sl e c h x = some (e + x - cmdE c sl w, cmdE c sl w, x) := by
        unfold w_loop_next
        rw [hbd, Option.bind_some, wrapB (x := e + B) (by omega) (by omega), if_pos (by omega), if_pos (by omega), q1, Option.bind_some, wrapB (x := c - sl) (by omega) (by omega), wrapB (x := c + sl) (by omega) (by omega), wrapB (x := e + x) (by omega) (by omega)]
        unfold cmdE
        by_cases g1 : w < c - sl
        · rw [if_pos g1, if_neg (by omega), if_pos g1, wrapB (by omega) (by omega)]
        · rw [if_neg g1, if_neg g1]
          by_cases g2 : c + sl < w
          · rw [if_pos g2, if_pos g2, wrapB (by omega) (by omega)]
          · rw [if_neg g2, if_neg g2, wrapB (by omega) (by omega)]
      rw [hn, Option.bind_some]
      unfold w_loop_breaks
      rw [hbd, Option.bind_some, uwithin_eq _ _ (by omega) (by omega), Option.bind_some, q2]
      by_cases k3 : -B ≤ e + x - cmdE c sl w ∧ e + x - cmdE c sl w ≤ B
      · rw [if_pos (by simpa using k3), Option.bind_some, if_pos k3]; rfl
      · rw [if_neg (by simpa using k3), Option.bind_some, if_neg k3]; rfl
    · rw [if_neg (by simpa using k2), if_neg k2]
  · rw [if_neg k1]
    by_cases g : lo ≤ x
    · rw [if_pos g, if_neg (fun g2 => k1 ⟨g, g2⟩)]; rfl
    · rw [if_neg g]; rfl
theorem rStep_eq (x : Int) : r2_Step T lo hi tu sl e c h x = some (stepE T B lo hi tu sl e c h x) := by
  have l1 := H.len
  have b0 := H.b0
  have lo4 := H.lo4
  have hi4 := H.hi4
  have tu8 := H.tu8
  have sl20 := H.sl20
  obtain ⟨s1, s2, s3⟩ := S
  have hbd : r2_Bound T lo hi tu sl = some B := by rw [rBound_eq T lo hi tu sl (by omega)]; unfold B2; congr 1; omega
  obtain ⟨w, q1, q2, q3⟩ := tabAt H ⟨s1, s2, s3⟩
  have qc := cmdE_range H ⟨s1, s2, s3⟩ q3
  unfold r2_Step stepE
  rw [within_eq, Option.bind_some]
  by_cases k1 : lo ≤ x ∧ x ≤ hi
  · rw [if_pos (by simpa using k1), if_pos k1, wrapB (x := x - h) (by omega) (by omega), size_eq _ (by omega), Option.bind_some]
    by_cases k2 : -tu ≤ x - h ∧ x - h ≤ tu
    · rw [if_neg (by omega), if_pos k2]
      have hn : r2_Next T lo hi tu sl e c h x = some (e + x - cmdE c sl w, cmdE c sl w, x, decide (-B ≤ e + x - cmdE c sl w ∧ e + x - cmdE c sl w ≤ B)) := by
        unfold r2_Next
        simp only [hbd, Option.bind_some, show (0 : Int) - B = -B by omega, wrapB (x := -B) (by omega) (by omega), wrapB (x := e + B) (by omega) (by omega)]
        rw [if_pos (by omega), if_pos (by omega), q1, Option.bind_some, wrapB (x := c - sl) (by omega) (by omega), wrapB (x := c + sl) (by omega) (by omega), wrapB (x := e + x) (by omega) (by omega)]
        simp only [within_eq, Option.bind_some]
        have fin : ∀ k : Int, -1000 ≤ k → k ≤ 1000 → cmdE c sl w = k → (if decide (-B ≤ IntKind.wrap .i64 (e + x - k) ∧ IntKind.wrap .i64 (e + x - k) ≤ B) = true then some (IntKind.wrap .i64 (e + x - k), k, x, true) else some (IntKind.wrap .i64 (e + x - k), k, x, false)) = some (e + x - cmdE c sl w, cmdE c sl w, x, decide (-B ≤ e + x - cmdE c sl w ∧ e + x - cmdE c sl w ≤ B)) := fun k g1 g2 g3 => by
          rw [g3, wrapB (x := e + x - k) (by omega) (by omega)]
          cases decide (-B ≤ e + x - k ∧ e + x - k ≤ B) <;> rfl
        by_cases g1 : c - sl < w
        · rw [if_pos g1]
          by_cases g2 : w < c + sl
          · rw [if_pos g2]; exact fin w (by omega) (by omega) (cmdE_mid (by omega) (by omega))
          · rw [if_neg g2]; exact fin _ (by omega) (by omega) (cmdE_hi (by omega) (by omega))
        · rw [if_neg g1]
          by_cases g2 : c - sl < c + sl
          · rw [if_pos g2]; exact fin _ (by omega) (by omega) (cmdE_lo (by omega) (by omega))
          · rw [if_neg g2]; exact fin (c + sl) (by omega) (by omega) (by rw [cmdE_lo (by omega) (by omega)]; omega)
      rw [hn, Option.bind_some, q2]
      by_cases k3 : -B ≤ e + x - cmdE c sl w ∧ e + x - cmdE c sl w ≤ B
      · rw [if_pos (by simpa using k3), if_pos k3]
      · rw [if_neg (by simpa using k3), if_neg k3]
    · rw [if_pos (by omega), if_neg k2]
  · rw [if_neg (by simpa using k1), if_neg k1]
theorem step_ok {x : Int} (hz : (stepE T B lo hi tu sl e c h x).2.2.2 = 0) : okS B lo hi (stepE T B lo hi tu sl e c h x).1 (stepE T B lo hi tu sl e c h x).2.1 (stepE T B lo hi tu sl e c h x).2.2.1 := by
  obtain ⟨w, q1, q2, q3⟩ := tabAt H S
  have qc := cmdE_range H S q3
  unfold stepE at hz ⊢
  rw [q2] at hz ⊢
  split at hz
  · rename_i k1
    split at hz
    · rename_i k2
      split at hz
      · rename_i k3
        rw [if_pos k1, if_pos k2, if_pos k3]
        exact ⟨k3, qc, k1⟩
      · cases hz
    · cases hz
  · cases hz
end
abbrev St3 := (Int × Int × Int) × List (Int × Int × Int)
def runS (T : List Int) (B lo hi tu sl : Int) (_ : Nat) (x : Int) (s : St3) : Int ⊕ St3 :=
  if (stepE T B lo hi tu sl s.1.1 s.1.2.1 s.1.2.2 x).2.2.2 = 0 then .inr (((stepE T B lo hi tu sl s.1.1 s.1.2.1 s.1.2.2 x).1, (stepE T B lo hi tu sl s.1.1 s.1.2.1 s.1.2.2 x).2.1, (stepE T B lo hi tu sl s.1.1 s.1.2.1 s.1.2.2 x).2.2.1), s.2 ++ [((stepE T B lo hi tu sl s.1.1 s.1.2.1 s.1.2.2 x).1, (stepE T B lo hi tu sl s.1.1 s.1.2.1 s.1.2.2 x).2.1, (stepE T B lo hi tu sl s.1.1 s.1.2.1 s.1.2.2 x).2.2.1)]) else .inl (stepE T B lo hi tu sl s.1.1 s.1.2.1 s.1.2.2 x).2.2.2
def prj3 : Int ⊕ St3 → Int ⊕ List (Int × Int × Int)
  | .inl x => .inl x
  | .inr s => .inr s.2
def res3 : Int ⊕ St3 → List (Int × Int × Int) × Int
  | .inl x => ([], x)
  | .inr s => (s.2, 0)
section
variable {T : List Int} {lo hi tu sl B : Int} (H : Lp T lo hi tu sl B) (fu : Nat) (hf : 100 ≤ fu) (l : List Int) (hl : l.length ≤ 60)
include H hf hl
theorem wRun_eq : w_RunOf_L1 fu T l lo hi tu sl (l.length : Int) fu [(0, 0, 0)] 0 = some (prj3 (runF (runS T B lo hi tu sl) l 0 ((0, 0, 0), [(0, 0, 0)]))) := by
  have := loop_inv l (fun n i (s : St3) => w_RunOf_L1 fu T l lo hi tu sl (l.length : Int) n s.2 (i : Int)) (runS T B lo hi tu sl) prj3 (fun i s => okS B lo hi s.1.1 s.1.2.1 s.1.2.2 ∧ s.2.length = i + 1 ∧ s.2[i]? = some s.1)
    (fun n s _ => by rw [w_RunOf_L1, if_neg (by omega)]; rfl)
    (fun n i e s he hI => by
      obtain ⟨h1, h2, h3⟩ := idx he
      obtain ⟨i1, i2, i3⟩ := hI
      obtain ⟨j1, j2, j3⟩ := idx i3
      rw [w_RunOf_L1, if_pos h1, if_pos h2, if_pos h1, h3, Option.bind_some, if_pos (by omega), j3, Option.bind_some, wStep_eq H i1, Option.bind_some]
      unfold runS
      by_cases h0 : (stepE T B lo hi tu sl s.1.1 s.1.2.1 s.1.2.2 e).2.2.2 = 0
      · have hil : i < l.length := (List.getElem?_eq_some_iff.1 he).1
        rw [if_pos h0, if_pos (by omega), if_pos h0]
        simp only
        rw [wrapS (by omega)]
      · rw [if_neg h0, if_neg h0]; rfl)
    (fun i e s s' he hI hs => by
      obtain ⟨i1, i2, i3⟩ := hI
      unfold runS at hs
      split at hs
      · rename_i h0
        injection hs with hs; subst hs
        refine ⟨step_ok H i1 h0, by simp [i2], ?_⟩
        simp only
        rw [← i2, List.getElem?_append_right (Nat.le_refl _)]
        simp
      · cases hs) fu 0 ((0, 0, 0), [(0, 0, 0)])
    ⟨show okS B lo hi 0 0 0 from ⟨by have := H.b0; omega, by omega, by have := H.lo4; have := H.hi4; omega⟩, rfl, rfl⟩ (by omega) (by omega)
  simpa using this
theorem rRun_eq : r2_Run_L1 fu T l lo hi tu sl fu 0 0 0 [(0, 0, 0)] 0 = some (prj3 (runF (runS T B lo hi tu sl) l 0 ((0, 0, 0), [(0, 0, 0)]))) := by
  have := loop_inv l (fun n i (s : St3) => r2_Run_L1 fu T l lo hi tu sl n s.1.1 s.1.2.1 s.1.2.2 s.2 (i : Int)) (runS T B lo hi tu sl) prj3 (fun i s => okS B lo hi s.1.1 s.1.2.1 s.1.2.2 ∧ s.2.length = i + 1)
    (fun n s _ => by rw [r2_Run_L1, if_neg (by omega)]; rfl)
    (fun n i e s he hI => by
      obtain ⟨h1, h2, h3⟩ := idx he
      obtain ⟨i1, i2⟩ := hI
      rw [r2_Run_L1, if_pos h1, if_pos h2, h3, Option.bind_some, rStep_eq H i1, Option.bind_some]
      unfold runS
      by_cases h0 : (stepE T B lo hi tu sl s.1.1 s.1.2.1 s.1.2.2 e).2.2.2 = 0
      · have hil : i < l.length := (List.getElem?_eq_some_iff.1 he).1
        rw [if_pos h0, if_pos (by omega), if_pos h0]
        simp only
        rw [wrapS (by omega)]
      · rw [if_neg h0, if_neg h0]; rfl)
    (fun i e s s' he hI hs => by
      obtain ⟨i1, i2⟩ := hI
      unfold runS at hs
      split at hs
      · rename_i h0
        injection hs with hs; subst hs
        exact ⟨step_ok H i1 h0, by simp [i2]⟩
      · cases hs) fu 0 ((0, 0, 0), [(0, 0, 0)])
    ⟨show okS B lo hi 0 0 0 from ⟨by have := H.b0; omega, by omega, by have := H.lo4; have := H.hi4; omega⟩, rfl⟩ (by omega) (by omega)
  simpa using this
theorem runs_eq (he : loopE T lo hi tu sl = (0, 0)) (hT : T.length ≤ 13) : ∃ p : List (Int × Int × Int) × Int, w_RunOf fu T lo hi tu sl l = some p ∧ r2_Run fu T lo hi tu sl l = some p ∧ p.1.length ≤ 61 := by
  have bound : ∀ (l : List Int) (i : Nat) (s : St3), (res3 (runF (runS T B lo hi tu sl) l i s)).1.length ≤ s.2.length + l.length := by
    intro l
    induction l with
    | nil => intro i s; exact Nat.le_refl _
    | cons x r ih =>
      intro i s
      unfold runF
      cases hs : runS T B lo hi tu sl i x s with
      | inl y => simp [res3]
      | inr s' =>
        have h1 := ih (i + 1) s'
        have h2 : s'.2.length = s.2.length + 1 := by
          unfold runS at hs
          split at hs
          · injection hs with hs; subst hs; simp
          · cases hs
        simp only [List.length_cons]; omega
  refine ⟨res3 (runF (runS T B lo hi tu sl) l 0 ((0, 0, 0), [(0, 0, 0)])), ?_, ?_, by have := bound l 0 ((0, 0, 0), [(0, 0, 0)]); simp at this; omega⟩
  · unfold w_RunOf w_loopError
    rw [wLoop_eq fu hf T lo hi tu sl hT, Option.bind_some, Option.bind_some, he, if_pos rfl, if_neg (by omega), wRun_eq H fu hf l hl, Option.bind_some]
    cases runF (runS T B lo hi tu sl) l 0 ((0, 0, 0), [(0, 0, 0)]) <;> rfl
  · unfold r2_Run
    rw [rRun_eq H fu hf l hl, Option.bind_some]
    cases runF (runS T B lo hi tu sl) l 0 ((0, 0, 0), [(0, 0, 0)]) <;> rfl
end
theorem same_eq (fu : Nat) (hf : 100 ≤ fu) (a : List (Int × Int × Int)) (ha : a.length ≤ 61) : r2_SameStates fu a a = some true := by
  have := loop_run a (fun n i _ => r2_SameStates_L1 fu a a n (i : Int)) (fun _ _ _ => (.inr () : Empty ⊕ Unit)) (fun _ => (.inr () : Unit ⊕ Unit))
    (fun n s => by rw [r2_SameStates_L1, if_neg (by omega)])
    (fun n i e s he => by
      obtain ⟨h1, h2, h3⟩ := idx he
      have hil : i < a.length := (List.getElem?_eq_some_iff.1 he).1
      rw [r2_SameStates_L1, if_pos h1, if_pos h2, h3, Option.bind_some, if_pos h1, Option.bind_some, if_pos rfl, if_pos rfl, if_pos rfl, wrapS (by omega)]) fu 0 () (by omega) (by omega)
  unfold r2_SameStates
  rw [if_pos rfl, show (0 : Int) = ((0 : Nat) : Int) from rfl, this]; rfl
end Go.Proofs.Ytpkjkekdfpdelaa
