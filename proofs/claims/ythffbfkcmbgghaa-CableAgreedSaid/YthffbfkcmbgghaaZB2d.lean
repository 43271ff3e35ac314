/-
  'CableReadings': contradictions, sets, and the lifted law is true.
-/
import Derived.Test.YthffbfkcmbgghaaZB2c
set_option linter.all false
namespace Go.Proofs.Ythffbfkcmbgghaa
open Go Go.RowKit
structure VX (X : Int) (l : List Lk) (b : List Rg) (x : List Lk) : Prop where
  vb : VB X l b
  xl : x.length ≤ 12
  xs : ∀ e ∈ x, rdF (l.length : Int) e = 0
theorem VX.at {X : Int} {l : List Lk} {b : List Rg} {x : List Lk} (v : VX X l b x) {i : Nat} (h : i < x.length) : ∃ e k, x[i]? = some e ∧ x[i]?.getD (0, 0, 0) = e ∧ RdOk l e k := by
  have e1 : x[i]? = some x[i] := List.getElem?_eq_getElem h
  have h1 := v.xs _ (List.getElem_mem h)
  have h2 := v.vb.ll
  unfold rdF at h1
  by_cases c : idE (l.length : Int) x[i].1 = 0
  · rw [if_pos c] at h1
    unfold idE at c
    by_cases d : 0 ≤ x[i].1 ∧ x[i].1 ≤ (l.length : Int) - 1
    · obtain ⟨k, hk⟩ := Int.eq_ofNat_of_zero_le d.1
      obtain ⟨r1, r2, _⟩ := rgE_ok h1
      exact ⟨_, k, e1, by rw [e1]; rfl, hk, by omega, r1, r2⟩
    · rw [if_neg d] at c; omega
  · rw [if_neg c] at h1; exact absurd h1 c
def in1 (P : Nat → Int) (h : Nat → List Int) : Nat → Nat → Option (List Int)
  | 0, _ => none
  | m + 1, i => if 0 < P i then some (h i) else in1 P h m (i + 1)
theorem in1_s (P : Nat → Int) (h : Nat → List Int) (m i : Nat) : in1 P h (m + 1) i = if 0 < P i then some (h i) else in1 P h m (i + 1) := rfl
def in2 (Q : Nat → Nat → Option (List Int)) : Nat → Nat → Option (List Int)
  | 0, _ => none
  | m + 1, i => match Q m i with
    | some y => some y
    | none => in2 Q m (i + 1)
theorem in2_s (Q : Nat → Nat → Option (List Int)) (m i : Nat) : in2 Q (m + 1) i = match Q m i with | some y => some y | none => in2 Q m (i + 1) := rfl
theorem ps_pos (d : Int) : (0 < ps d) ↔ 0 < d := by unfold ps; split <;> omega
def one (X : Int) (l : List Lk) (b : List Rg) (x : List Lk) (i : Nat) : Int := A1 X l b (x[i]?.getD (0, 0, 0))
def two (l : List Lk) (b : List Rg) (x : List Lk) (i k : Nat) : Int := A2 l b (x[i]?.getD (0, 0, 0)) (x[k]?.getD (0, 0, 0))
def oS : Option (List Int) → List Int ⊕ Unit
  | some y => .inl y
  | none => .inr ()
theorem p_1 {fu : Nat} (hf : 1000 ≤ fu) {X : Int} (Z : Int) {l : List Lk} {b : List Rg} {x : List Lk} (v : VX X l b x) : ∀ (m n i : Nat), i + m = x.length → m < n → c_ContradictionOf_L1 fu l b x X Z (x.length : Int) n (i : Int) = some (oS (in1 (one X l b x) (fun i => [(i : Int)]) m i))
  | _, 0, _, _, h => absurd h (Nat.not_lt_zero _)
  | 0, n + 1, i, hk, _ => by
    rw [c_ContradictionOf_L1, if_neg (by omega)]; rfl
  | m + 1, n + 1, i, hk, hn => by
    have hx := v.xl
    obtain ⟨e, k, e1, e2, e3⟩ := v.at (show i < x.length by omega)
    obtain ⟨h1, h2, h3⟩ := at_nat e1
    rw [c_ContradictionOf_L1, if_pos h2, if_pos h1, if_pos h2, h3, Option.bind_some, p_load hf v.vb e3, Option.bind_some, wrapS (by omega), p_1 hf Z v m n (i + 1) (by omega) (by omega), in1_s, show one X l b x i = A1 X l b e by unfold one; rw [e2]]
    by_cases c : 0 < A1 X l b e
    · rw [if_pos c, if_pos ((ps_pos _).2 c)]; rfl
    · rw [if_neg c, if_neg (fun d => c ((ps_pos _).1 d))]
theorem p_2 {fu : Nat} (hf : 1000 ≤ fu) {X : Int} (Z : Int) {l : List Lk} {b : List Rg} {x : List Lk} (v : VX X l b x) {i : Nat} {e : Lk} {k : Nat} (hi : x[i]? = some e) (he : RdOk l e k) (p10 : Int) : ∀ (m n j : Nat), j + m = x.length → m < n → c_ContradictionOf_L2 fu l b x X Z (i : Int) e.1 e.2.1 e.2.2 p10 n (j : Int) = some (oS (in1 (two l b x i) (fun j => [(i : Int), (j : Int)]) m j))
  | _, 0, _, _, h => absurd h (Nat.not_lt_zero _)
  | 0, n + 1, j, hk, _ => by
    rw [c_ContradictionOf_L2, if_neg (by omega)]; rfl
  | m + 1, n + 1, j, hk, hn => by
    have hx := v.xl
    obtain ⟨d, q, e1, e2, e3⟩ := v.at (show j < x.length by omega)
    obtain ⟨h1, h2, h3⟩ := at_nat e1
    rw [c_ContradictionOf_L2, if_pos h2, if_pos h1, h3, Option.bind_some, p_each hf v.vb he e3, Option.bind_some, wrapS (by omega), p_2 hf Z v hi he p10 m n (j + 1) (by omega) (by omega), in1_s, show two l b x i j = A2 l b e d by unfold two; rw [e2, hi]; rfl]
    by_cases c : 0 < A2 l b e d
    · rw [if_pos c, if_pos ((ps_pos _).2 c)]; rfl
    · rw [if_neg c, if_neg (fun d => c ((ps_pos _).1 d))]
def inn (l : List Lk) (b : List Rg) (x : List Lk) (m i : Nat) : Option (List Int) := in1 (two l b x i) (fun j => [(i : Int), (j : Int)]) m (i + 1)
theorem p_3 {fu : Nat} (hf : 1000 ≤ fu) {X : Int} (Z : Int) {l : List Lk} {b : List Rg} {x : List Lk} (v : VX X l b x) : ∀ (m n i : Nat), i + m = x.length → m < n → c_ContradictionOf_L3 fu l b x X Z (x.length : Int) n (i : Int) = some (oS (in2 (inn l b x) m i))
  | _, 0, _, _, h => absurd h (Nat.not_lt_zero _)
  | 0, n + 1, i, hk, _ => by
    rw [c_ContradictionOf_L3, if_neg (by omega)]; rfl
  | m + 1, n + 1, i, hk, hn => by
    have hx := v.xl
    obtain ⟨e, k, e1, e2, e3⟩ := v.at (show i < x.length by omega)
    obtain ⟨h1, h2, h3⟩ := at_nat e1
    rw [c_ContradictionOf_L3, if_pos h2, if_pos h1, if_pos h2, h3, Option.bind_some, wrapS (by omega), p_2 hf Z v e1 e3 _ m fu (i + 1) (by omega) (by omega), Option.bind_some, p_3 hf Z v m n (i + 1) (by omega) (by omega), in2_s]
    unfold inn
    cases in1 (two l b x i) (fun j => [(i : Int), (j : Int)]) m (i + 1) <;> rfl
def con (X : Int) (l : List Lk) (b : List Rg) (x : List Lk) : Option (List Int) := match in1 (one X l b x) (fun i => [(i : Int)]) x.length 0 with
  | some y => some y
  | none => in2 (inn l b x) x.length 0
theorem p_con {fu : Nat} (hf : 1000 ≤ fu) {X Z : Int} {l : List Lk} {b : List Rg} {x : List Lk} (v : VX X l b x) (he : c_readingsError fu X Z l b x = some 0) : c_ContradictionOf fu X Z l b x = some (match con X l b x with | some y => (y, 0) | none => ([], 12)) := by
  have hx := v.xl
  have e1 := p_1 hf Z v x.length fu 0 (by omega) (by omega)
  have e2 := p_3 hf Z v x.length fu 0 (by omega) (by omega)
  rw [show ((0 : Nat) : Int) = 0 from rfl] at e1 e2
  unfold c_ContradictionOf con
  rw [he, Option.bind_some, if_pos rfl, e1, Option.bind_some, e2]
  cases in1 (one X l b x) (fun i => [(i : Int)]) x.length 0 with
  | some y => rfl
  | none => cases in2 (inn l b x) x.length 0 <;> rfl
end Go.Proofs.Ythffbfkcmbgghaa
