/-
  'CableAgreed': what can be true. Readings around true tensions do not contradict; one that no current makes does.
-/
import Derived.Test.YthffbfkcmbgghaaZB2f
set_option linter.all false
namespace Go.Proofs.Ythffbfkcmbgghaa
open Go Go.RowKit
theorem S_mono {g h : Nat → Int} : ∀ (m i : Nat) (x y : Int), (∀ j, i ≤ j → j < i + m → g j ≤ h j) → x ≤ y → S g m i x ≤ S h m i y
  | 0, _, x, y, _, h => h
  | m + 1, i, x, y, hg, hx => by
    rw [S_s, S_s]
    have := hg i (by omega) (by omega)
    exact S_mono m (i + 1) _ _ (fun j h1 h2 => hg j (by omega) (by omega)) (by omega)
theorem S_add (g : Nat → Int) : ∀ (a b i : Nat) (x : Int), S g (a + b) i x = S g b (i + a) (S g a i x)
  | 0, b, i, x => by rw [Nat.zero_add]; rfl
  | a + 1, b, i, x => by
    rw [show a + 1 + b = (a + b) + 1 by omega, S_s, S_s, S_add g a b (i + 1) (x + g i), show i + 1 + a = i + (a + 1) by omega]
theorem dI_le {a b : Rg} {t : Int} (h1 : a.1 ≤ t) (h2 : t ≤ a.2) (h3 : b.1 ≤ t) (h4 : t ≤ b.2) : dI a b ≤ 0 := by
  unfold dI; split <;> omega
theorem in1_none {P : Nat → Int} {h : Nat → List Int} : ∀ {m i : Nat}, (∀ j, i ≤ j → j < i + m → P j ≤ 0) → in1 P h m i = none
  | 0, _, _ => rfl
  | m + 1, i, hp => by
    rw [in1_s, if_neg (by have := hp i (by omega) (by omega); omega)]
    exact in1_none fun j h1 h2 => hp j (by omega) (by omega)
theorem in1_at {P : Nat → Int} {h : Nat → List Int} : ∀ {m i k : Nat}, (∀ j, i ≤ j → j < i + k → P j ≤ 0) → k < m → 0 < P (i + k) → in1 P h m i = some (h (i + k))
  | 0, _, _, _, hk, _ => by omega
  | m + 1, i, 0, _, _, hp => by rw [in1_s, if_pos (show 0 < P i from hp)]; rfl
  | m + 1, i, k + 1, hn, hk, hp => by
    rw [in1_s, if_neg (by have := hn i (by omega) (by omega); omega), in1_at (k := k) (fun j h1 h2 => hn j (by omega) (by omega)) (by omega) (by rw [show i + 1 + k = i + (k + 1) by omega]; exact hp), show i + 1 + k = i + (k + 1) by omega]
theorem in1_some {P : Nat → Int} {h : Nat → List Int} : ∀ {m i : Nat} {y : List Int}, in1 P h m i = some y → ∃ j, i ≤ j ∧ j < i + m ∧ 0 < P j ∧ y = h j
  | 0, _, _, e => by cases e
  | m + 1, i, y, e => by
    rw [in1_s] at e
    split at e
    · injection e with e; exact ⟨i, by omega, by omega, by assumption, e.symm⟩
    · obtain ⟨j, a1, a2, a3, a4⟩ := in1_some e
      exact ⟨j, by omega, by omega, a3, a4⟩
theorem in1_no {P : Nat → Int} {h : Nat → List Int} : ∀ {m i : Nat}, in1 P h m i = none → ∀ j, i ≤ j → j < i + m → P j ≤ 0
  | 0, i, _, j, h1, h2 => by omega
  | m + 1, i, e, j, h1, h2 => by
    rw [in1_s] at e
    split at e
    · cases e
    · rcases Nat.lt_or_ge i j with c | c
      · exact in1_no e j (by omega) (by omega)
      · have : j = i := by omega
        subst this; omega
theorem in2_some {l : List Lk} {b : List Rg} {x : List Lk} : ∀ {m i : Nat} {y : List Int}, in2 (inn l b x) m i = some y → ∃ j k, i ≤ j ∧ j < k ∧ k < i + m ∧ 0 < two l b x j k ∧ y = [(j : Int), (k : Int)]
  | 0, _, _, e => by cases e
  | m + 1, i, y, e => by
    rw [in2_s] at e
    cases q : inn l b x m i with
    | some z =>
      rw [q] at e; injection e with e; subst e
      obtain ⟨k, a1, a2, a3, a4⟩ := in1_some q
      exact ⟨i, k, by omega, by omega, by omega, a3, a4⟩
    | none =>
      rw [q] at e
      obtain ⟨j, k, a1, a2, a3, a4, a5⟩ := in2_some (i := i + 1) e
      exact ⟨j, k, by omega, a2, by omega, a4, a5⟩
def tn (g : Nat → Int) (X : Int) (k : Nat) : Int := S g (k + 1) 0 X
theorem tn_s (g : Nat → Int) (X : Int) {k j : Nat} (h : k ≤ j) : tn g X j = S g (j - k) (k + 1) (tn g X k) := by
  unfold tn
  rw [show j + 1 = (k + 1) + (j - k) by omega, S_add, Nat.zero_add]
structure Hol (g : Nat → Int) (X : Int) (l : List Lk) (e : Lk) (k : Nat) : Prop where
  ix : e.1 = (k : Int)
  lt : k < l.length
  lo : e.2.1 ≤ tn g X k
  hi : tn g X k ≤ e.2.2
section
variable {l : List Lk} {b : List Rg} {g : Nat → Int} {X : Int} (hg : ∀ i, i < l.length → gL l b i ≤ g i ∧ g i ≤ gH l b i)
include hg
theorem tn_in {k : Nat} (hk : k < l.length) : (cI l b (k + 1) 0 (X, X)).1 ≤ tn g X k ∧ tn g X k ≤ (cI l b (k + 1) 0 (X, X)).2 :=
  ⟨S_mono _ _ _ _ (fun j _ h2 => (hg j (by omega)).1) (Int.le_refl _), S_mono _ _ _ _ (fun j _ h2 => (hg j (by omega)).2) (Int.le_refl _)⟩
theorem A1_le {e : Lk} {k : Nat} (h : Hol g X l e k) : A1 X l b e ≤ 0 := by
  unfold A1
  rw [h.ix, Int.toNat_natCast]
  obtain ⟨a1, a2⟩ := tn_in (X := X) hg h.lt
  exact dI_le a1 a2 h.lo h.hi
theorem A2'_le {r s : Lk} {k j : Nat} (h : Hol g X l r k) (q : Hol g X l s j) (hkj : k ≤ j) : A2' l b r s ≤ 0 := by
  unfold A2'
  rw [h.ix, q.ix, Int.toNat_natCast, Int.toNat_natCast]
  have h1 := q.lt
  have e := tn_s g X hkj
  refine dI_le (t := tn g X j) ?_ ?_ q.lo q.hi
  · rw [e]; exact S_mono _ _ _ _ (fun i _ h2 => (hg i (by omega)).1) h.lo
  · rw [e]; exact S_mono _ _ _ _ (fun i _ h2 => (hg i (by omega)).2) h.hi
theorem A2_le {r s : Lk} {k j : Nat} (h : Hol g X l r k) (q : Hol g X l s j) : A2 l b r s ≤ 0 := by
  have e1 := h.ix
  have e2 := q.ix
  unfold A2
  by_cases c : s.1 < r.1
  · rw [if_pos c]; exact A2'_le hg q h (by omega)
  · rw [if_neg c]; exact A2'_le hg h q (by omega)
theorem con_none {x : List Lk} (hL : 0 < l.length) (hx : ∀ (i : Nat) (e : Lk), x[i]? = some e → ∃ k, Hol g X l e k) : con X l b x = none := by
  have h1 : ∀ j, j < x.length → one X l b x j ≤ 0 := fun j hj => by
    unfold one
    rw [List.getElem?_eq_getElem hj, Option.getD_some]
    obtain ⟨k, h⟩ := hx j _ (List.getElem?_eq_getElem hj)
    exact A1_le hg h
  have h2 : ∀ j k, j < x.length → k < x.length → two l b x j k ≤ 0 := fun j k hj hk => by
    unfold two
    rw [List.getElem?_eq_getElem hj, List.getElem?_eq_getElem hk, Option.getD_some, Option.getD_some]
    obtain ⟨_, h⟩ := hx j _ (List.getElem?_eq_getElem hj)
    obtain ⟨_, q⟩ := hx k _ (List.getElem?_eq_getElem hk)
    exact A2_le hg h q
  unfold con
  rw [in1_none fun j _ hj => h1 j (by omega)]
  show in2 (inn l b x) x.length 0 = none
  cases q : in2 (inn l b x) x.length 0 with
  | none => rfl
  | some y =>
    obtain ⟨j, k, a1, a2, a3, a4, _⟩ := in2_some q
    have := h2 j k (by omega) (by omega)
    omega
theorem con_more {x : List Lk} (hx : ∀ (i : Nat) (e : Lk), x[i]? = some e → ∃ k, Hol g X l e k) {e : Lk} (he : 0 < A1 X l b e) : con X l b (x ++ [e]) = some [(x.length : Int)] := by
  have h1 : ∀ j, j < x.length → one X l b (x ++ [e]) j ≤ 0 := fun j hj => by
    unfold one
    rw [List.getElem?_append_left hj, List.getElem?_eq_getElem hj, Option.getD_some]
    obtain ⟨k, h⟩ := hx j _ (List.getElem?_eq_getElem hj)
    exact A1_le hg h
  have h2 : 0 < one X l b (x ++ [e]) (0 + x.length) := by
    unfold one
    rw [Nat.zero_add, List.getElem?_append_right (Nat.le_refl _), Nat.sub_self]
    exact he
  unfold con
  rw [in1_at (k := x.length) (fun j _ hj => h1 j (by omega)) (by simp) h2, Nat.zero_add]
end
theorem con_what {X : Int} {l : List Lk} {b : List Rg} {x : List Lk} {y : List Int} (h : con X l b x = some y) :
    (∃ j, j < x.length ∧ y = [(j : Int)] ∧ 0 < one X l b x j) ∨ (∃ j k, j < k ∧ k < x.length ∧ y = [(j : Int), (k : Int)] ∧ 0 < two l b x j k ∧ one X l b x j ≤ 0 ∧ one X l b x k ≤ 0) := by
  unfold con at h
  cases q : in1 (one X l b x) (fun i => [(i : Int)]) x.length 0 with
  | some z =>
    rw [q] at h; injection h with h; subst h
    obtain ⟨j, a1, a2, a3, a4⟩ := in1_some q
    exact .inl ⟨j, by omega, a4, a3⟩
  | none =>
    rw [q] at h
    obtain ⟨j, k, a1, a2, a3, a4, a5⟩ := in2_some h
    have no := in1_no q
    exact .inr ⟨j, k, a2, by omega, a5, a4, no j (by omega) (by omega), no k (by omega) (by omega)⟩
theorem con_alone (X : Int) (l : List Lk) (b : List Rg) (e : Lk) : con X l b [e] = if 0 < A1 X l b e then some [0] else none := by
  unfold con
  show (match (if 0 < A1 X l b e then some [((0 : Nat) : Int)] else none) with | some y => some y | none => in2 (inn l b [e]) 1 0) = _
  by_cases h : 0 < A1 X l b e
  · rw [if_pos h, if_pos h]; rfl
  · rw [if_neg h, if_neg h]; rfl
end Go.Proofs.Ythffbfkcmbgghaa
