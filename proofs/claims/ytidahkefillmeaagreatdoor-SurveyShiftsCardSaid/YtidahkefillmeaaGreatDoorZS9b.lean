/-
  Stations: the program's functions and the reference's, as Lean functions, say the same.
-/
import Derived.Test.YtidahkefillmeaaGreatDoorZIa
import Derived.Test.YtidahkefillmeaaGreatDoorZS9e
set_option linter.all false
namespace Go.Proofs.YtidahkefillmeaaGreatDoor
open Go Go.RowKit
theorem x_within (n lo hi : Int) : b_Within n lo hi = some (decide (lo ≤ n ∧ n ≤ hi)) := by
  unfold b_Within
  by_cases h1 : lo ≤ n
  · by_cases h2 : n ≤ hi
    · simp [h1, h2]
    · simp [h1, h2]
  · simp [h1]
theorem x_uwithin (n m : Int) (h : 0 ≤ m ∧ m ≤ 1000000) : u_Within n m = some (decide (-m ≤ n ∧ n ≤ m)) := by
  unfold u_Within
  rw [wrapB (by omega) (by omega)]
  by_cases h1 : 0 - m ≤ n
  · by_cases h2 : n ≤ m
    · rw [if_pos h1, if_pos h2, decide_eq_true (by omega)]
    · rw [if_pos h1, if_neg h2, decide_eq_false (by omega)]
  · rw [if_neg h1, decide_eq_false (by omega)]
theorem x_runF_first : ∀ (l : List Int) (i : Nat), runF (fun _ (e : Int) (_ : Unit) => if e = 0 then (.inr () : Int ⊕ Unit) else .inl e) l i () = if firstE l = 0 then .inr () else .inl (firstE l)
  | [], _ => rfl
  | a :: r, i => by
    unfold runF firstE
    by_cases ha : a = 0
    · simp only [ha, if_true]; exact x_runF_first r (i + 1)
    · simp only [ha, if_false]
theorem x_first (fu : Nat) (l : List Int) (h : l.length < fu) (hl : l.length < 4611686018427387904) : u_FirstError fu l = some (firstE l) := by
  have := loop_run l (fun n i _ => u_FirstError_L1 fu l (l.length : Int) n (i : Int)) (fun _ (e : Int) (_ : Unit) => if e = 0 then (.inr () : Int ⊕ Unit) else .inl e) id
    (fun n s => by rw [u_FirstError_L1, if_neg (by omega)]; rfl)
    (fun n i e s he => by
      obtain ⟨h1, h2, h3⟩ := idx he
      rw [u_FirstError_L1, if_pos h1, if_pos h2, if_pos h1, h3, Option.bind_some]
      by_cases h0 : e = 0
      · simp only [h0, if_true]; rw [wrapS (by omega)]
      · simp only [h0, if_false]; rfl) fu 0 () (by omega) (by omega)
  unfold u_FirstError
  rw [show ((0 : Nat) : Int) = 0 from rfl] at this
  rw [this, List.drop_zero, x_runF_first, Option.bind_some]
  by_cases h0 : firstE l = 0
  · simp [h0]
  · simp [h0]
def fstF {α : Type} (f : α → Int) : List α → Int
  | [] => 0
  | e :: r => if f e = 0 then fstF f r else f e
theorem fb_run {α τ : Type} (l : List α) (L : Nat → Nat → Option τ) (pr : τ → Int) (f : α → Int)
    (hend : ∀ n, ∃ o, L (n + 1) l.length = some o ∧ pr o = 0)
    (hstep : ∀ n i e, l[i]? = some e → (f e = 0 ∧ L (n + 1) i = L n (i + 1)) ∨ (f e ≠ 0 ∧ ∃ o, L (n + 1) i = some o ∧ pr o = f e)) :
    ∀ n i, i ≤ l.length → l.length - i < n → ∃ o, L n i = some o ∧ pr o = fstF f (l.drop i)
  | 0, i, _, h => by omega
  | n + 1, i, hi, h => by
    rcases Nat.lt_or_ge i l.length with h1 | h1
    · have he : l[i]? = some l[i] := List.getElem?_eq_getElem h1
      rw [List.drop_eq_getElem_cons h1, fstF]
      rcases hstep n i _ he with ⟨c, e⟩ | ⟨c, o, e, p⟩
      · rw [e, if_pos c]; exact fb_run l L pr f hend hstep n (i + 1) (by omega) (by omega)
      · rw [if_neg c]; exact ⟨o, e, p⟩
    · have : i = l.length := by omega
      subst this
      rw [List.drop_of_length_le (Nat.le_refl _)]
      exact hend n
theorem fstF_ok {α : Type} {f : α → Int} : ∀ {l : List α}, fstF f l = 0 → ∀ e ∈ l, f e = 0
  | [], _, e, he => by cases he
  | a :: r, h, e, he => by
    unfold fstF at h
    by_cases c : f a = 0
    · rw [if_pos c] at h
      rcases List.mem_cons.1 he with rfl | he
      · exact c
      · exact fstF_ok h e he
    · rw [if_neg c] at h; exact absurd h c
def inE (m : Int) (l : List Int) : Int := fstF (fun x => if -m ≤ x ∧ x ≤ m then 0 else 2) l
theorem x_size (fu : Nat) (m : Int) (hm : 0 ≤ m ∧ m ≤ 1000000) (l : List Int) (h : l.length < fu) (hl : l.length < 4611686018427387904) : u_SizeError fu m l = some (inE m l) := by
  obtain ⟨o, e1, e2⟩ := fb_run l (fun n i => u_SizeError_L1 fu l m (l.length : Int) n (i : Int)) (Sum.elim (fun _ => 2) (fun _ => 0)) (fun x => if -m ≤ x ∧ x ≤ m then 0 else 2)
    (fun n => ⟨.inr (), by rw [u_SizeError_L1, if_neg (by omega)], rfl⟩)
    (fun n i e he => by
      obtain ⟨h1, h2, h3⟩ := idx he
      rw [u_SizeError_L1, if_pos h1, if_pos h2, if_pos h1, h3, Option.bind_some, x_uwithin _ _ hm, Option.bind_some]
      by_cases c : -m ≤ e ∧ e ≤ m
      · rw [decide_eq_true c, if_pos rfl, wrapS (by omega), if_pos c]; exact .inl ⟨rfl, rfl⟩
      · rw [decide_eq_false c, if_neg Bool.false_ne_true, if_neg c]; exact .inr ⟨by omega, _, rfl, rfl⟩) fu 0 (by omega) (by omega)
  rw [show ((0 : Nat) : Int) = 0 from rfl] at e1
  rw [List.drop_zero] at e2
  unfold u_SizeError inE
  rw [e1, ← e2]
  cases o <;> rfl
theorem x_order (a b : Int) : u_OrderError a b = some (if b < a then 9 else 0) := by
  unfold u_OrderError; split <;> rfl
/-! ### Stations -/
def okH (n : Int) : Prop := -10000 ≤ n ∧ n ≤ 10000
instance (n : Int) : Decidable (okH n) := by unfold okH; exact inferInstance
def okP (n : Int) : Prop := 0 ≤ n ∧ n ≤ 100000
instance (n : Int) : Decidable (okP n) := by unfold okP; exact inferInstance
theorem in4 (a b c d : Int) : inE 10000 [a, b, c, d] = if okH a ∧ okH b ∧ okH c ∧ okH d then 0 else 2 := by
  unfold inE okH
  simp only [fstF]
  by_cases h1 : -10000 ≤ a ∧ a ≤ 10000
  · by_cases h2 : -10000 ≤ b ∧ b ≤ 10000
    · by_cases h3 : -10000 ≤ c ∧ c ≤ 10000
      · by_cases h4 : -10000 ≤ d ∧ d ≤ 10000 <;> simp [h1, h2, h3, h4]
      · simp [h1, h2, h3]
    · simp [h1, h2]
  · simp [h1]
theorem r_isHeight (n : Int) : r9_isHeight n = some (decide (okH n)) := by
  unfold r9_isHeight okH
  rw [x_within, Option.bind_some]
  by_cases c : -10000 ≤ n ∧ n ≤ 10000
  · rw [decide_eq_true c, if_pos rfl]
  · rw [decide_eq_false c]; rfl
/-! ### Burials and gaps -/
theorem okH_at {n : Int} (h : okH n) : -10000 ≤ n ∧ n ≤ 10000 := h
end Go.Proofs.YtidahkefillmeaaGreatDoor
