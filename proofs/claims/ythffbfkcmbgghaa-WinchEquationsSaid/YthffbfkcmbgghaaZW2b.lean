/-
  Errors, sizes, common divisors: the lifted functions of the packages rules and base.
-/
import Derived.Test.YthffbfkcmbgghaaZIa
import Derived.Test.YthffbfkcmbgghaaZW2a
set_option linter.all false
namespace Go.Proofs.Ythffbfkcmbgghaa
open Go Go.RowKit
theorem limit_eq (a lo hi : Int) : u_LimitError a lo hi = some (limE a lo hi) := by
  unfold u_LimitError limE
  by_cases h1 : a < lo
  · rw [if_pos h1, if_pos (.inl h1)]
  · rw [if_neg h1]
    by_cases h2 : hi < a
    · rw [if_pos h2, if_pos (.inr h2)]
    · rw [if_neg h2, if_neg (by omega)]
theorem within_eq (n lo hi : Int) : b_Within n lo hi = some (decide (lo ≤ n ∧ n ≤ hi)) := by
  unfold b_Within
  by_cases h1 : lo ≤ n
  · by_cases h2 : n ≤ hi
    · simp [h1, h2]
    · simp [h1, h2]
  · simp [h1]
theorem uwithin_eq (n m : Int) (h : 0 ≤ m) (h' : m ≤ 4611686018427387904) : u_Within n m = some (decide (-m ≤ n ∧ n ≤ m)) := by
  unfold u_Within
  rw [wrapB (by omega) (by omega), show (0 : Int) - m = -m by omega]
  by_cases h1 : -m ≤ n
  · by_cases h2 : n ≤ m
    · simp [h1, h2]
    · simp [h1, h2]
  · simp [h1]
theorem runF_first : ∀ (l : List Int) (i : Nat), runF (fun _ (e : Int) (_ : Unit) => if e = 0 then (.inr () : Int ⊕ Unit) else .inl e) l i () = if firstE l = 0 then .inr () else .inl (firstE l)
  | [], _ => rfl
  | a :: r, i => by
    unfold runF firstE
    by_cases ha : a = 0
    · simp only [ha, if_true]; exact runF_first r (i + 1)
    · simp only [ha, if_false]
theorem firstE_eq (fu : Nat) (l : List Int) (h : l.length < fu) (hl : l.length < 4611686018427387904) : u_FirstError fu l = some (firstE l) := by
  have := loop_run l (fun n i _ => u_FirstError_L1 fu l (l.length : Int) n (i : Int)) (fun _ (e : Int) (_ : Unit) => if e = 0 then (.inr () : Int ⊕ Unit) else .inl e) id
    (fun n s => by rw [u_FirstError_L1, if_neg (by omega)]; rfl)
    (fun n i e s he => by
      obtain ⟨h1, h2, h3⟩ := idx he
      rw [u_FirstError_L1, if_pos h1, if_pos h2, if_pos h1, h3, Option.bind_some]
      by_cases h0 : e = 0
      · simp only [h0, if_true]; rw [wrapS (by omega)]
      · simp only [h0, if_false]; rfl) fu 0 () (by omega) (by omega)
  unfold u_FirstError
  rw [show ((0 : Nat) : Int) = 0 from rfl] at this
  rw [this, List.drop_zero, runF_first, Option.bind_some]
  by_cases h0 : firstE l = 0
  · simp [h0]
  · simp [h0]
theorem runF_all {p : Int → Bool} {ε : Type} {g : Nat → Int → ε} : ∀ (l : List Int) (i : Nat), (l.all p = true → runF (fun i (e : Int) (_ : Unit) => if p e = true then (.inr () : ε ⊕ Unit) else .inl (g i e)) l i () = .inr ()) ∧ (l.all p = false → ∃ j e, p e = false ∧ runF (fun i (e : Int) (_ : Unit) => if p e = true then (.inr () : ε ⊕ Unit) else .inl (g i e)) l i () = .inl (g j e))
  | [], _ => ⟨fun _ => rfl, fun h => by cases h⟩
  | a :: r, i => by
    obtain ⟨h1, h2⟩ := runF_all (p := p) (g := g) r (i + 1)
    unfold runF
    cases ha : p a with
    | true =>
      simp only [List.all_cons, ha, Bool.true_and, if_true]
      exact ⟨h1, h2⟩
    | false =>
      simp only [List.all_cons, ha, Bool.false_and, Bool.false_eq_true, if_false]
      exact ⟨fun h => h.elim, fun _ => ⟨i, a, ha, rfl⟩⟩
theorem sizeE_eq (fu : Nat) (m : Int) (l : List Int) (h : l.length < fu) (hl : l.length < 4611686018427387904) (hm : 0 ≤ m) (hm' : m ≤ 4611686018427387904) : u_SizeError fu m l = some (sizeE m l) := by
  have := loop_run l (fun n i _ => u_SizeError_L1 fu l m (l.length : Int) n (i : Int)) (fun i (e : Int) (_ : Unit) => if decide (-m ≤ e ∧ e ≤ m) = true then (.inr () : Unit ⊕ Unit) else .inl ((fun _ _ => ()) i e)) id
    (fun n s => by rw [u_SizeError_L1, if_neg (by omega)]; rfl)
    (fun n i e s he => by
      obtain ⟨h1, h2, h3⟩ := idx he
      rw [u_SizeError_L1, if_pos h1, if_pos h2, if_pos h1, h3, Option.bind_some, uwithin_eq e m hm hm', Option.bind_some]
      by_cases h0 : decide (-m ≤ e ∧ e ≤ m) = true
      · simp only [h0, if_true]; rw [wrapS (by omega)]
      · simp only [h0, if_false, Bool.false_eq_true]; rfl) fu 0 () (by omega) (by omega)
  unfold u_SizeError sizeE
  rw [show ((0 : Nat) : Int) = 0 from rfl, List.drop_zero] at this
  obtain ⟨a1, a2⟩ := runF_all (p := fun e => decide (-m ≤ e ∧ e ≤ m)) (g := fun _ _ => ()) l 0
  cases hp : l.all (fun x => decide (-m ≤ x ∧ x ≤ m)) with
  | true => rw [this, a1 hp]; rfl
  | false => obtain ⟨j, e, _, hj⟩ := a2 hp; rw [this, hj]; rfl
theorem divL1 (fu : Nat) (p0 : List Int) (p3 p4 : Int) : ∀ (n : Nat) (a b : Int), u_Divisor_L1 fu p0 p3 p4 n a b = euL n a b
  | 0, _, _ => rfl
  | n + 1, a, b => by
    unfold u_Divisor_L1 euL
    by_cases h : b = 0
    · rw [if_pos h, if_pos h]
    · rw [if_neg h, if_neg h]; exact divL1 fu p0 p3 p4 n _ _
theorem runF_gcd (fu : Nat) : ∀ (l : List Int) (i : Nat) (s : Int), (∀ x ∈ l, x.natAbs < fu) → ∃ g, runF (fun _ e s => (.inr ((euL fu s e).getD 0) : Empty ⊕ Int)) l i s = .inr g ∧ g.natAbs = l.foldl (fun g x => Nat.gcd g x.natAbs) s.natAbs
  | [], _, s, _ => ⟨s, rfl, rfl⟩
  | a :: r, i, s, h => by
    obtain ⟨g, e, hg⟩ := euL_gcd fu s a (h a List.mem_cons_self)
    unfold runF
    simp only [e, Option.getD_some, List.foldl_cons, ← hg]
    exact runF_gcd fu r (i + 1) g fun x hx => h x (List.mem_cons_of_mem _ hx)
theorem divisor_eq (fu : Nat) (l : List Int) (hf : l.length < fu) (hl : l.length < 4611686018427387904) (hb : ∀ x ∈ l, x.natAbs < fu) (hg : gcdL l ≤ 9223372036854775807) : u_Divisor fu l = some (gcdL l : Int) := by
  have := loop_run l (fun n i s => u_Divisor_L2 fu l (l.length : Int) n s (i : Int)) (fun _ e s => (.inr ((euL fu s e).getD 0) : Empty ⊕ Int)) (fun o => match o with | .inr s => s | .inl x => nomatch x)
    (fun n s => by rw [u_Divisor_L2, if_neg (by omega)])
    (fun n i e s he => by
      obtain ⟨h1, h2, h3⟩ := idx he
      obtain ⟨g, eg, _⟩ := euL_gcd fu s e (hb e (List.mem_of_getElem? he))
      rw [u_Divisor_L2, if_pos h1, if_pos h2, if_pos h1, h3, Option.bind_some, divL1, eg, Option.bind_some, wrapS (by omega)]
      rfl) fu 0 0 (by omega) (by omega)
  obtain ⟨g, e, hgg⟩ := runF_gcd fu l 0 0 hb
  rw [List.drop_zero, e] at this
  unfold u_Divisor
  rw [show ((0 : Nat) : Int) = 0 from rfl] at this
  rw [this, Option.bind_some]
  have h1 : g.natAbs = gcdL l := hgg
  have h2 := abs_of (g := g) (by omega)
  rw [h1] at h2
  show (if g < IntKind.i64.wrap (0 - g) then some (IntKind.i64.wrap (0 - g)) else some g) = _
  rw [← h2]
  split <;> rfl
theorem gcdL1 (fu : Nat) : ∀ (n : Nat) (a b : Int), b_Gcd_L1 fu n a b = euL n a b
  | 0, _, _ => rfl
  | n + 1, a, b => by
    unfold b_Gcd_L1 euL
    by_cases h : b = 0
    · rw [if_pos h, if_pos h]
    · rw [if_neg h, if_neg h]; exact gcdL1 fu n _ _
theorem size_eq (g : Int) (h : g.natAbs ≤ 9223372036854775807) : b_Size g = some (g.natAbs : Int) := by
  unfold b_Size
  rw [← abs_of h]
  split <;> rfl
theorem gcd_eq (fu : Nat) (a b : Int) (hb : b.natAbs < fu) (hg : Nat.gcd a.natAbs b.natAbs ≤ 9223372036854775807) : b_Gcd fu a b = some (Nat.gcd a.natAbs b.natAbs : Int) := by
  obtain ⟨g, e, h⟩ := euL_gcd fu a b hb
  unfold b_Gcd
  rw [gcdL1, e, Option.bind_some, size_eq g (by omega), Option.bind_some, h]
theorem tdiv_range {x : Int} {g : Nat} (hg : 0 < g) (h : -9223372036854775808 ≤ x ∧ x ≤ 9223372036854775807) : -9223372036854775808 ≤ Int.tdiv x (g : Int) ∧ Int.tdiv x (g : Int) ≤ 9223372036854775807 := by
  have h1 : (Int.tdiv x (g : Int)).natAbs = x.natAbs / g := by rw [Int.natAbs_tdiv, Int.natAbs_natCast]; rfl
  have h2 := Nat.div_le_self x.natAbs g
  by_cases hx : 0 ≤ x
  · have := Int.tdiv_nonneg hx (show (0 : Int) ≤ (g : Int) by omega); omega
  · have := Int.tdiv_nonneg (show (0 : Int) ≤ -x by omega) (show (0 : Int) ≤ (g : Int) by omega)
    rw [Int.neg_tdiv] at this; omega
end Go.Proofs.Ythffbfkcmbgghaa
