/-
  Silent stretches of a bus: errors, stretches, what they keep; plain mathematics over the lifted functions.
-/
import Derived.Test.YtefkmidmjofdcaaZIa
import Derived.Test.YtefkmidmjofdcaaZYc
set_option linter.all false
namespace Go.Proofs.Ytefkmidmjofdcaa
open Go Go.RowKit

theorem y_limit (a lo hi : Int) : u_LimitError a lo hi = some (limE a lo hi) := by
  unfold u_LimitError limE
  by_cases h1 : a < lo
  · rw [if_pos h1, if_pos (.inl h1)]
  · rw [if_neg h1]
    by_cases h2 : hi < a
    · rw [if_pos h2, if_pos (.inr h2)]
    · rw [if_neg h2, if_neg (by omega)]
theorem y_within (n lo hi : Int) : b_Within n lo hi = some (decide (lo ≤ n ∧ n ≤ hi)) := by
  unfold b_Within
  by_cases h1 : lo ≤ n
  · by_cases h2 : n ≤ hi
    · simp [h1, h2]
    · simp [h1, h2]
  · simp [h1]
theorem y_runF_first : ∀ (l : List Int) (i : Nat), runF (fun _ (e : Int) (_ : Unit) => if e = 0 then (.inr () : Int ⊕ Unit) else .inl e) l i () = if firstE l = 0 then .inr () else .inl (firstE l)
  | [], _ => rfl
  | a :: r, i => by
    unfold runF firstE
    by_cases ha : a = 0
    · simp only [ha, if_true]; exact y_runF_first r (i + 1)
    · simp only [ha, if_false]
theorem y_first (fu : Nat) (l : List Int) (h : l.length < fu) (hl : l.length < 4611686018427387904) : u_FirstError fu l = some (firstE l) := by
  have := loop_run l (fun n i _ => u_FirstError_L1 fu l (l.length : Int) n (i : Int)) (fun _ (e : Int) (_ : Unit) => if e = 0 then (.inr () : Int ⊕ Unit) else .inl e) id
    (fun n s => by rw [u_FirstError_L1, if_neg (by omega)]; rfl)
    (fun n i e s he => by
      obtain ⟨h1, h2, h3⟩ := idx he
      rw [u_FirstError_L1, if_pos h1, if_pos h2, if_pos h1, h3, Option.bind_some]
      by_cases h0 : e = 0
      · simp only [h0, if_true]; rw [wrapS (by omega)]
      · simp only [h0, if_false]; rfl) fu 0 () (by omega) (by omega)
  unfold u_FirstError
  rw [show ((0 : Nat) : Int) = 0 from rfl] at this
  rw [this, List.drop_zero, y_runF_first, Option.bind_some]
  by_cases h0 : firstE l = 0
  · simp [h0]
  · simp [h0]
def tkE (a : Int) : Int := limE a 0 1000000000000
theorem y_tick (a : Int) : bus_tickError a = some (tkE a) := by
  unfold bus_tickError; rw [y_limit]; rfl
theorem y_isTick (a : Int) : b_IsTick a = some (decide (tkE a = 0)) := by
  unfold b_IsTick
  rw [y_within, Option.bind_some]
  have e : tkE a = 0 ↔ 0 ≤ a ∧ a ≤ 1000000000000 := limE_zero
  by_cases h : 0 ≤ a ∧ a ≤ 1000000000000
  · simp [h, e.2 h]
  · have : ¬ tkE a = 0 := fun c => h (e.1 c)
    simp [h, this]
theorem tk_cases (a : Int) : tkE a = 0 ∧ 0 ≤ a ∧ a ≤ 1000000000000 ∨ tkE a = 2 := by
  unfold tkE limE
  split
  · exact .inr rfl
  · exact .inl ⟨rfl, by omega, by omega⟩
def hE1 (f : Bool) (b e : Int) : Int := if tkE e = 0 then (if f = true ∨ b < e then 0 else 9) else 2
theorem y_heard1 (fu : Nat) (hf : 100 ≤ fu) (e : Int) (f : Bool) (b : Int) : bus_heardError_1 fu e f b = some (hE1 f b e, false, e) := by
  unfold bus_heardError_1
  have r2 : u_RisingErrors_1 e f b = some (if f = true ∨ b < e then 0 else 9, false, e) := by
    unfold u_RisingErrors_1
    by_cases h : f = true
    · simp [h]
    · by_cases h' : b < e
      · simp [h, h']
      · simp [h, h']
  rw [y_tick, Option.bind_some, r2, Option.bind_some, y_first fu _ (by simp; omega) (by simp), Option.bind_some]
  unfold hE1 firstE firstE firstE
  rcases tk_cases e with ⟨h, -⟩ | h
  · rw [h]
    by_cases h' : f = true ∨ b < e
    · simp [h']
    · simp [h']
  · rw [h]; simp
def hrd : List Int → Bool → Int → Int
  | [], _, _ => 0
  | e :: r, f, b => if hE1 f b e = 0 then hrd r false e else hE1 f b e
theorem y_bad (fu : Nat) (hf : 100 ≤ fu) (l : List Int) (hl : l.length < 1000) : ∀ n i f b, i ≤ l.length → l.length - i < n → ∃ x, u_FirstBad_int_heardError_1_L1 fu l (l.length : Int) n f b (i : Int) = some x ∧ (match x with | .inl y => y.2.2.2 | .inr _ => 0) = hrd (l.drop i) f b
  | 0, i, f, b, _, h => by omega
  | n + 1, i, f, b, hi, h => by
    rcases Nat.lt_or_ge i l.length with h1 | h1
    · have he : l[i]? = some l[i] := List.getElem?_eq_getElem h1
      obtain ⟨a1, a2, a3⟩ := idx he
      rw [u_FirstBad_int_heardError_1_L1, if_pos a1, if_pos a2, if_pos a1, a3, Option.bind_some, y_heard1 fu hf, Option.bind_some, List.drop_eq_getElem_cons h1, hrd]
      by_cases h0 : hE1 f b l[i] = 0
      · rw [if_pos h0, if_pos h0, wrapS (by omega)]
        exact y_bad fu hf l hl n (i + 1) false _ (by omega) (by omega)
      · rw [if_neg h0, if_neg h0]
        exact ⟨_, rfl, rfl⟩
    · have : i = l.length := by omega
      subst this
      rw [u_FirstBad_int_heardError_1_L1, if_neg (by omega), List.drop_of_length_le (Nat.le_refl _)]
      exact ⟨_, rfl, rfl⟩
theorem y_heard (fu : Nat) (hf : 100 ≤ fu) (l : List Int) (hl : l.length ≤ 62) : bus_heardError fu l = some (if (60 : Int) < (l.length : Int) then 8 else hrd l true 0) := by
  unfold bus_heardError u_CheckList_int_heardError_1
  rw [if_neg (by omega)]
  by_cases h : (60 : Int) < (l.length : Int)
  · rw [if_pos h, if_pos h]; rfl
  · rw [if_neg h, if_neg h]
    unfold u_FirstBad_int_heardError_1
    obtain ⟨x, e, hx⟩ := y_bad fu hf l (by omega) fu 0 true 0 (by omega) (by omega)
    rw [show ((0 : Nat) : Int) = 0 from rfl] at e
    rw [e, Option.bind_some]
    rw [List.drop_zero] at hx
    rw [← hx]
    cases x with
    | inl y => rfl
    | inr y => rfl
theorem y_limsL (fu : Nat) (l : List Int) (lo hi : Int) (hl : l.length < 1000) : ∀ n i, i ≤ l.length → l.length - i < n → ∃ x, u_FirstBad_int_LimitsError_1_L1 fu l lo hi (l.length : Int) n ((i : Nat) : Int) = some x ∧ (match x with | .inl y => y.2 | .inr _ => 0) = firstE ((l.drop i).map (limE · lo hi))
  | 0, i, _, h => by omega
  | n + 1, i, hi', h => by
    rcases Nat.lt_or_ge i l.length with h1 | h1
    · obtain ⟨a1, a2, a3⟩ := idx (List.getElem?_eq_getElem h1)
      have e1 : u_LimitsError_1 l[i] lo hi = some (limE l[i] lo hi) := by unfold u_LimitsError_1; rw [y_limit]; rfl
      rw [u_FirstBad_int_LimitsError_1_L1, if_pos a1, if_pos a2, if_pos a1, a3, Option.bind_some, e1, Option.bind_some, List.drop_eq_getElem_cons h1, List.map_cons, firstE]
      by_cases h0 : limE l[i] lo hi = 0
      · rw [if_pos h0, if_pos h0, wrapS (by omega)]
        exact y_limsL fu l lo hi hl n (i + 1) (by omega) (by omega)
      · rw [if_neg h0, if_neg h0]
        exact ⟨_, rfl, rfl⟩
    · rw [u_FirstBad_int_LimitsError_1_L1, if_neg (by omega), List.drop_of_length_le h1]
      exact ⟨_, rfl, rfl⟩
theorem y_lims (fu : Nat) (l : List Int) (lo hi : Int) (hl : l.length < 1000) (hf : l.length < fu) : u_LimitsError fu lo hi l = some (firstE (l.map (limE · lo hi))) := by
  unfold u_LimitsError u_FirstBad_int_LimitsError_1
  obtain ⟨x, e, hx⟩ := y_limsL fu l lo hi hl fu 0 (by omega) (by omega)
  rw [show ((0 : Nat) : Int) = 0 from rfl] at e
  rw [e, Option.bind_some]
  rw [List.drop_zero] at hx
  rw [← hx]
  cases x with
  | inl y => rfl
  | inr y => rfl
theorem y_span (fu : Nat) (hf : 100 ≤ fu) (lo hi : Int) : bus_spanError fu lo hi = some (firstE [tkE lo, tkE hi, if hi < lo then 9 else 0]) := by
  unfold bus_spanError
  have o : u_OrderError lo hi = some (if hi < lo then 9 else 0) := by
    unfold u_OrderError
    by_cases h : hi < lo
    · rw [if_pos h, if_pos h]
    · rw [if_neg h, if_neg h]
  rw [y_lims fu _ _ _ (by simp) (by simp; omega), Option.bind_some, o, Option.bind_some, y_first fu _ (by simp; omega) (by simp), Option.bind_some]
  have e : [lo, hi].map (limE · 0 1000000000000) = [tkE lo, tkE hi] := rfl
  rw [e]
  congr 1
  rcases tk_cases lo with ⟨h1, -⟩ | h1 <;> rcases tk_cases hi with ⟨h2, -⟩ | h2 <;> rw [h1, h2] <;> simp [firstE]
def errS (l : List Int) (lo hi t : Int) : Int := firstE [if (60 : Int) < (l.length : Int) then 8 else hrd l true 0, firstE [tkE lo, tkE hi, if hi < lo then 9 else 0], tkE t]
theorem y_refL (fu : Nat) (l : List Int) (hl : l.length < 1000) (p1 p2 p3 : Int) : ∀ n i b, (0 < i → l[i - 1]? = some b) → i ≤ l.length → l.length - i < n → r7_HeardErr_L1 fu l p1 p2 p3 n (i : Int) = some (if hrd (l.drop i) (decide (i = 0)) b = 0 then .inr () else .inl (hrd (l.drop i) (decide (i = 0)) b))
  | 0, i, b, _, _, h => by omega
  | n + 1, i, b, hb, hi, h => by
    rcases Nat.lt_or_ge i l.length with h1 | h1
    · have he : l[i]? = some l[i] := List.getElem?_eq_getElem h1
      obtain ⟨a1, a2, a3⟩ := idx he
      rw [r7_HeardErr_L1, if_pos a1, if_pos a2, a3, Option.bind_some, y_isTick, Option.bind_some, List.drop_eq_getElem_cons h1, hrd]
      have ih := y_refL fu l hl p1 p2 p3 n (i + 1) l[i] (fun _ => he) (by omega) (by omega)
      rw [show decide (i + 1 = 0) = false from rfl] at ih
      rcases tk_cases l[i] with ⟨h0, -⟩ | h0
      · rw [h0, if_pos (by simp)]
        unfold hE1
        rw [h0, if_pos rfl]
        by_cases hi0 : i = 0
        · subst hi0
          rw [if_neg (by omega), wrapS (by omega), ih]
          simp
        · obtain ⟨c1, c2, c3⟩ := idx (hb (by omega))
          have hw : IntKind.wrap .i64 ((i : Int) - 1) = ((i - 1 : Nat) : Int) := by
            rw [IntKind.wrap_i64]; omega
          rw [if_pos (by omega), hw, if_pos c2, if_pos c1, c3, Option.bind_some]
          by_cases hr : b < l[i]
          · rw [if_neg (by omega), wrapS (by omega), ih]
            simp [hr]
          · rw [if_pos (by omega)]
            simp [hr, hi0]
      · rw [h0, if_neg (by simp)]
        unfold hE1
        rw [h0]; simp
    · have : i = l.length := by omega
      subst this
      rw [r7_HeardErr_L1, if_neg (by omega), List.drop_of_length_le (Nat.le_refl _)]
      simp [hrd]
theorem y_ref (fu : Nat) (hf : 100 ≤ fu) (l : List Int) (hl : l.length ≤ 62) (lo hi t : Int) : r7_HeardErr fu l lo hi t = some (errS l lo hi t) := by
  unfold r7_HeardErr errS
  by_cases h : (60 : Int) < (l.length : Int)
  · rw [if_pos h, if_pos h]; simp [firstE]
  · rw [if_neg h, if_neg h]
    have e := y_refL fu l (by omega) t lo hi fu 0 0 (by omega) (by omega) (by omega)
    rw [show ((0 : Nat) : Int) = 0 from rfl, List.drop_zero, show decide (0 = 0) = true from rfl] at e
    rw [e, Option.bind_some, firstE]
    by_cases h0 : hrd l true 0 = 0
    · rw [h0, if_pos rfl, if_pos rfl]
      simp only [y_isTick, Option.bind_some]
      rcases tk_cases lo with ⟨h1, -⟩ | h1
      · rcases tk_cases hi with ⟨h2, -⟩ | h2
        · by_cases h3 : hi < lo
          · simp [firstE, h1, h2, h3]
          · rcases tk_cases t with ⟨h4, -⟩ | h4
            · simp [firstE, h1, h2, h3, h4]
            · simp [firstE, h1, h2, h3, h4]
        · simp [firstE, h1, h2]
      · simp [firstE, h1]
    · rw [if_neg h0, if_neg h0]
theorem hrd_in : ∀ {l : List Int} {f : Bool} {b : Int}, hrd l f b = 0 → ∀ e ∈ l, 0 ≤ e ∧ e ≤ 1000000000000
  | [], _, _, _, e, he => by cases he
  | a :: r, f, b, h, e, he => by
    unfold hrd at h
    by_cases h0 : hE1 f b a = 0
    · rw [if_pos h0] at h
      rcases List.mem_cons.1 he with rfl | he
      · rcases tk_cases e with ⟨-, h1⟩ | h1
        · exact h1
        · unfold hE1 at h0; rw [h1] at h0; simp at h0
      · exact hrd_in h e he
    · rw [if_neg h0] at h; exact (h0 h).elim
theorem errS_ok {l : List Int} {lo hi t : Int} (h : errS l lo hi t = 0) : l.length ≤ 60 ∧ (∀ e ∈ l, 0 ≤ e ∧ e ≤ 1000000000000) ∧ 0 ≤ lo ∧ lo ≤ hi ∧ hi ≤ 1000000000000 ∧ 0 ≤ t ∧ t ≤ 1000000000000 := by
  unfold errS at h
  by_cases h6 : (60 : Int) < (l.length : Int)
  · rw [if_pos h6] at h; simp [firstE] at h
  · rw [if_neg h6] at h
    by_cases h0 : hrd l true 0 = 0
    · rw [h0] at h
      rcases tk_cases lo with ⟨h1, b1⟩ | h1
      · rcases tk_cases hi with ⟨h2, b2⟩ | h2
        · by_cases h3 : hi < lo
          · simp [firstE, h1, h2, h3] at h
          · rcases tk_cases t with ⟨h4, b4⟩ | h4
            · exact ⟨by omega, hrd_in h0, by omega, by omega, by omega, by omega, by omega⟩
            · simp [firstE, h1, h2, h3, h4] at h
        · simp [firstE, h1, h2] at h
      · simp [firstE, h1] at h
    · simp [firstE, h0] at h
theorem errS_zero {l : List Int} {lo hi t t' : Int} (h : errS l lo hi t = 0) (h' : 0 ≤ t' ∧ t' ≤ 1000000000000) : errS l lo hi t' = 0 := by
  have h2 := h
  unfold errS at h ⊢
  have e1 : tkE t' = 0 := by unfold tkE limE; rw [if_neg (by omega)]
  have e2 : tkE t = 0 := by have := errS_ok h2; unfold tkE limE; rw [if_neg (by omega)]
  rw [e1]; rw [e2] at h; exact h

/-! ### Stretches -/
def mnI (a b : Int) : Int := if b < a then b else a
def mxI (a b : Int) : Int := if a < b then b else a
def gs (t hi : Int) : List Int → List (Int × Int) → Int → List (Int × Int) × Int
  | [], o, f => (o, f)
  | k :: r, o, f => gs t hi r (if f ≤ mnI (k - 1) hi then o ++ [(f, mnI (k - 1) hi)] else o) (mxI f (k + t + 1))
def fin (hi : Int) (p : List (Int × Int) × Int) : List (Int × Int) := if p.2 ≤ hi then p.1 ++ [(p.2, hi)] else p.1
theorem gs_len (t hi : Int) : ∀ (l : List Int) o f, (gs t hi l o f).1.length ≤ o.length + l.length
  | [], o, f => by simp [gs]
  | k :: r, o, f => by
    unfold gs
    have := gs_len t hi r (if f ≤ mnI (k - 1) hi then o ++ [(f, mnI (k - 1) hi)] else o) (mxI f (k + t + 1))
    refine Nat.le_trans this ?_
    split
    · simp only [List.length_append, List.length_cons, List.length_nil]; omega
    · simp only [List.length_cons]; omega
theorem y_loop (fu : Nat) (l : List Int) (hl : l.length ≤ 60) (hb : ∀ e ∈ l, 0 ≤ e ∧ e ≤ 1000000000000) (t lo hi : Int) (ht : 0 ≤ t ∧ t ≤ 1000000000000) : ∀ n i o f, i ≤ l.length → l.length - i < n → o.length ≤ i → bus_SilentIn_L1 fu l t lo hi (l.length : Int) n o f (i : Int) = some (gs t hi (l.drop i) o f)
  | 0, i, o, f, _, h, _ => by omega
  | n + 1, i, o, f, hi0, h, ho => by
    rcases Nat.lt_or_ge i l.length with h1 | h1
    · have he : l[i]? = some l[i] := List.getElem?_eq_getElem h1
      obtain ⟨a1, a2, a3⟩ := idx he
      have hr := hb l[i] (List.getElem_mem h1)
      rw [bus_SilentIn_L1, if_pos a1, if_pos a2, if_pos a1, a3, Option.bind_some, List.drop_eq_getElem_cons h1, gs]
      generalize l[i] = k at hr
      have ih := y_loop fu l hl hb t lo hi ht n (i + 1)
      rw [wrapS (by omega), wrapB (x := k - 1) (by omega) (by omega), wrapB (x := k + t) (by omega) (by omega), wrapB (x := k + t + 1) (by omega) (by omega)]
      have hO : (o.length : Int) < 65536 := by omega
      simp only [if_pos hO]
      unfold mnI mxI
      by_cases c1 : hi < k - 1
      · simp only [if_pos c1]
        by_cases c2 : f ≤ hi
        · simp only [if_pos c2]
          by_cases c3 : f < k + t + 1
          · simp only [if_pos c3]; exact ih _ _ (by omega) (by omega) (by simp; omega)
          · simp only [if_neg c3]; exact ih _ _ (by omega) (by omega) (by simp; omega)
        · simp only [if_neg c2]
          by_cases c3 : f < k + t + 1
          · simp only [if_pos c3]; exact ih _ _ (by omega) (by omega) (by omega)
          · simp only [if_neg c3]; exact ih _ _ (by omega) (by omega) (by omega)
      · simp only [if_neg c1]
        by_cases c2 : f ≤ k - 1
        · simp only [if_pos c2]
          by_cases c3 : f < k + t + 1
          · simp only [if_pos c3]; exact ih _ _ (by omega) (by omega) (by simp; omega)
          · simp only [if_neg c3]; exact ih _ _ (by omega) (by omega) (by simp; omega)
        · simp only [if_neg c2]
          by_cases c3 : f < k + t + 1
          · simp only [if_pos c3]; exact ih _ _ (by omega) (by omega) (by omega)
          · simp only [if_neg c3]; exact ih _ _ (by omega) (by omega) (by omega)
    · have : i = l.length := by omega
      subst this
      rw [bus_SilentIn_L1, if_neg (by omega), List.drop_of_length_le (Nat.le_refl _), gs]
theorem y_silent (fu : Nat) (hf : 100 ≤ fu) (l : List Int) (hl : l.length ≤ 62) (lo hi t : Int) : bus_SilentIn fu l lo hi t = some (if errS l lo hi t = 0 then (fin hi (gs t hi l [] lo), 0) else ([], errS l lo hi t)) := by
  unfold bus_SilentIn
  rw [y_heard fu hf l hl, Option.bind_some, y_span fu hf, Option.bind_some, y_tick, Option.bind_some, y_first fu _ (by simp; omega) (by simp), Option.bind_some]
  change (if errS l lo hi t = 0 then _ else some ([], errS l lo hi t)) = _
  by_cases h : errS l lo hi t = 0
  · rw [if_pos h, if_pos h]
    obtain ⟨e1, e2, e3, e4, e5, e6, e7⟩ := errS_ok h
    have e := y_loop fu l e1 e2 t lo hi ⟨e6, e7⟩ fu 0 [] lo (by omega) (by omega) (by simp)
    rw [show ((0 : Nat) : Int) = 0 from rfl, List.drop_zero] at e
    rw [e, Option.bind_some]
    have := gs_len t hi l [] lo
    simp only [List.length_nil, Nat.zero_add] at this
    unfold fin
    by_cases c : (gs t hi l [] lo).2 ≤ hi
    · rw [if_pos c, if_pos (by omega), if_pos c]
    · rw [if_neg c, if_neg c]
  · rw [if_neg h, if_neg h]
theorem y_refS (fu : Nat) (l : List Int) (hl : l.length ≤ 60) (hb : ∀ e ∈ l, 0 ≤ e ∧ e ≤ 1000000000000) (t lo hi : Int) (ht : 0 ≤ t ∧ t ≤ 1000000000000) : ∀ n i o f, i ≤ l.length → l.length - i + 1 < n → o.length ≤ i → r7_Silent_L1 fu l t lo hi n o f (i : Int) = some (fin hi (gs t hi (l.drop i) o f))
  | 0, i, o, f, _, h, _ => by omega
  | n + 1, i, o, f, hi0, h, ho => by
    rcases Nat.lt_or_ge i l.length with h1 | h1
    · have he : l[i]? = some l[i] := List.getElem?_eq_getElem h1
      obtain ⟨a1, a2, a3⟩ := idx he
      have hr := hb l[i] (List.getElem_mem h1)
      rw [r7_Silent_L1, if_pos (Int.le_of_lt a1), if_pos a1, if_pos a2, a3, Option.bind_some, List.drop_eq_getElem_cons h1, gs]
      generalize l[i] = k at hr
      have ih := y_refS fu l hl hb t lo hi ht n (i + 1)
      rw [wrapS (by omega), wrapB (x := k - 1) (by omega) (by omega), wrapB (x := k + t) (by omega) (by omega), wrapB (x := k + t + 1) (by omega) (by omega)]
      have hO : (o.length : Int) < 65536 := by omega
      simp only [if_pos hO]
      have hm : mnI (k - 1) hi = if k - 1 < hi then k - 1 else hi := by
        unfold mnI; split <;> split <;> omega
      rw [hm]
      unfold mxI
      by_cases c1 : k - 1 < hi
      · simp only [if_pos c1]
        by_cases c2 : f ≤ k - 1
        · simp only [if_pos c2]
          by_cases c3 : f < k + t + 1
          · simp only [if_pos c3]; exact ih _ _ (by omega) (by omega) (by simp; omega)
          · simp only [if_neg c3]; exact ih _ _ (by omega) (by omega) (by simp; omega)
        · simp only [if_neg c2]
          by_cases c3 : f < k + t + 1
          · simp only [if_pos c3]; exact ih _ _ (by omega) (by omega) (by omega)
          · simp only [if_neg c3]; exact ih _ _ (by omega) (by omega) (by omega)
      · simp only [if_neg c1]
        by_cases c2 : f ≤ hi
        · simp only [if_pos c2]
          by_cases c3 : f < k + t + 1
          · simp only [if_pos c3]; exact ih _ _ (by omega) (by omega) (by simp; omega)
          · simp only [if_neg c3]; exact ih _ _ (by omega) (by omega) (by simp; omega)
        · simp only [if_neg c2]
          by_cases c3 : f < k + t + 1
          · simp only [if_pos c3]; exact ih _ _ (by omega) (by omega) (by omega)
          · simp only [if_neg c3]; exact ih _ _ (by omega) (by omega) (by omega)
    · have : i = l.length := by omega
      subst this
      obtain ⟨m, rfl⟩ : ∃ m, n = m + 1 := ⟨n - 1, by omega⟩
      have last : ∀ o : List (Int × Int), r7_Silent_L1 fu l t lo hi (m + 1) o f (IntKind.wrap .i64 ((l.length : Int) + 1)) = some o := fun o => by
        rw [wrapS (by omega), r7_Silent_L1, if_neg (by omega)]
      rw [r7_Silent_L1, if_pos (Int.le_refl _), if_neg (by omega), List.drop_of_length_le (Nat.le_refl _), gs, if_pos (show (o.length : Int) < 65536 by omega), last, last]
      unfold fin
      by_cases c : f ≤ hi
      · simp only [if_pos c]
      · simp only [if_neg c]
theorem y_refSilent (fu : Nat) (hf : 100 ≤ fu) (l : List Int) (lo hi t : Int) (h : errS l lo hi t = 0) : r7_Silent fu l lo hi t = some (fin hi (gs t hi l [] lo)) := by
  unfold r7_Silent
  obtain ⟨e1, e2, e3, e4, e5, e6, e7⟩ := errS_ok h
  have e := y_refS fu l e1 e2 t lo hi ⟨e6, e7⟩ fu 0 [] lo (by omega) (by omega) (by simp)
  rw [show ((0 : Nat) : Int) = 0 from rfl, List.drop_zero] at e
  rw [e, Option.bind_some]

/-! ### What the stretches keep -/
def Far (o : List (Int × Int)) : Prop := o.Pairwise fun a b => a.2 + 2 ≤ b.1
theorem far_push {o : List (Int × Int)} {f m : Int} (h : Far o) (h' : ∀ a ∈ o, a.2 + 2 ≤ f) : Far (o ++ [(f, m)]) := by
  unfold Far
  rw [List.pairwise_append]
  refine ⟨h, List.pairwise_singleton _ _, fun a ha b hb => ?_⟩
  rw [List.mem_singleton] at hb; subst hb
  exact h' a ha
theorem gs_far (t hi : Int) (ht : 0 ≤ t) : ∀ (l : List Int) o f, Far o → (∀ a ∈ o, 0 ≤ a.1 ∧ a.1 ≤ a.2 ∧ a.2 ≤ hi) → (∀ a ∈ o, a.2 + 2 ≤ f) → 0 ≤ f → Far (fin hi (gs t hi l o f)) ∧ (∀ a ∈ fin hi (gs t hi l o f), 0 ≤ a.1 ∧ a.1 ≤ a.2 ∧ a.2 ≤ hi)
  | [], o, f, h1, h2, h3, h4 => by
    unfold gs fin
    by_cases c : f ≤ hi
    · simp only [if_pos c]
      refine ⟨far_push h1 h3, fun a ha => ?_⟩
      rcases List.mem_append.1 ha with ha | ha
      · exact h2 a ha
      · rw [List.mem_singleton] at ha; subst ha
        exact ⟨h4, c, Int.le_refl _⟩
    · simp only [if_neg c]
      exact ⟨h1, h2⟩
  | k :: r, o, f, h1, h2, h3, h4 => by
    unfold gs
    have hm : mnI (k - 1) hi ≤ hi ∧ mnI (k - 1) hi ≤ k - 1 := by unfold mnI; split <;> omega
    have hx : f ≤ mxI f (k + t + 1) ∧ k + t + 1 ≤ mxI f (k + t + 1) := by unfold mxI; split <;> omega
    generalize mnI (k - 1) hi = m at *
    generalize mxI f (k + t + 1) = g at *
    by_cases c : f ≤ m
    · rw [if_pos c]
      refine gs_far t hi ht r _ g (far_push h1 h3) (fun a ha => ?_) (fun a ha => ?_) (by omega)
      · rcases List.mem_append.1 ha with ha | ha
        · exact h2 a ha
        · rw [List.mem_singleton] at ha; subst ha
          exact ⟨h4, c, hm.1⟩
      · rcases List.mem_append.1 ha with ha | ha
        · have := h3 a ha; omega
        · rw [List.mem_singleton] at ha; subst ha
          show m + 2 ≤ g
          omega
    · rw [if_neg c]
      exact gs_far t hi ht r o g h1 h2 (fun a ha => by have := h3 a ha; omega) (by omega)
def Covers (o o' : List (Int × Int)) : Prop := ∀ x ∈ o', ∃ a ∈ o, a.1 ≤ x.1 ∧ x.2 ≤ a.2
theorem gs_covers (t t' hi : Int) (ht : t ≤ t') : ∀ (l : List Int) o o' f f', Covers o o' → f ≤ f' → Covers (fin hi (gs t hi l o f)) (fin hi (gs t' hi l o' f'))
  | [], o, o', f, f', h, hff => by
    unfold gs fin
    intro x hx
    by_cases c' : f' ≤ hi
    · have c : f ≤ hi := by omega
      simp only [if_pos c'] at hx
      simp only [if_pos c]
      rcases List.mem_append.1 hx with hx | hx
      · obtain ⟨a, ha, hh⟩ := h x hx
        exact ⟨a, List.mem_append.2 (.inl ha), hh⟩
      · rw [List.mem_singleton] at hx; subst hx
        exact ⟨(f, hi), by simp, hff, Int.le_refl _⟩
    · simp only [if_neg c'] at hx
      obtain ⟨a, ha, hh⟩ := h x hx
      refine ⟨a, ?_, hh⟩
      split
      · exact List.mem_append.2 (.inl ha)
      · exact ha
  | k :: r, o, o', f, f', h, hff => by
    unfold gs
    have hx : mxI f (k + t + 1) ≤ mxI f' (k + t' + 1) := by unfold mxI; split <;> split <;> omega
    refine gs_covers t t' hi ht r _ _ _ _ ?_ hx
    generalize mnI (k - 1) hi = m
    intro x hx
    by_cases c' : f' ≤ m
    · have c : f ≤ m := by omega
      rw [if_pos c'] at hx
      rw [if_pos c]
      rcases List.mem_append.1 hx with hx | hx
      · obtain ⟨a, ha, hh⟩ := h x hx
        exact ⟨a, List.mem_append.2 (.inl ha), hh⟩
      · rw [List.mem_singleton] at hx; subst hx
        exact ⟨(f, m), by simp, hff, Int.le_refl _⟩
    · rw [if_neg c'] at hx
      obtain ⟨a, ha, hh⟩ := h x hx
      refine ⟨a, ?_, hh⟩
      split
      · exact List.mem_append.2 (.inl ha)
      · exact ha
end Go.Proofs.Ytefkmidmjofdcaa
