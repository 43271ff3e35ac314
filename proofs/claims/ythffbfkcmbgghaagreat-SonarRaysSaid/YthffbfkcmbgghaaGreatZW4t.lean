/-
  Cells of a grid, row by row.
-/
import Derived.Test.YthffbfkcmbgghaaGreatZW4s
set_option linter.all false
namespace Go.Proofs.YthffbfkcmbgghaaGreat
open Go Go.RowKit
def rowP (P : Int → Int → Bool) (y : Int) : Nat → Int → List (Int × Int)
  | 0, _ => []
  | m + 1, x => if P x y = true then (x, y) :: rowP P y m (x + 1) else rowP P y m (x + 1)
def gridP (P : Int → Int → Bool) (m : Nat) (x : Int) : Nat → Int → List (Int × Int)
  | 0, _ => []
  | n + 1, y => rowP P y m x ++ gridP P m x n (y + 1)
theorem rowP_s (P : Int → Int → Bool) (y : Int) (m : Nat) (x : Int) : rowP P y (m + 1) x = if P x y = true then (x, y) :: rowP P y m (x + 1) else rowP P y m (x + 1) := rfl
theorem gridP_s (P : Int → Int → Bool) (m : Nat) (x : Int) (n : Nat) (y : Int) : gridP P m x (n + 1) y = rowP P y m x ++ gridP P m x n (y + 1) := rfl
theorem rowP_no {P : Int → Int → Bool} {y : Int} : ∀ {m : Nat} {x : Int}, (∀ a, x ≤ a → a < x + m → P a y = false) → rowP P y m x = []
  | 0, _, _ => rfl
  | m + 1, x, h => by
    unfold rowP
    rw [h x (by omega) (by omega), if_neg Bool.false_ne_true]
    exact rowP_no fun a h1 h2 => h a (by omega) (by omega)
theorem rowP_add (P : Int → Int → Bool) (y : Int) : ∀ (a b : Nat) (x : Int), rowP P y (a + b) x = rowP P y a x ++ rowP P y b (x + a)
  | 0, b, x => by rw [Nat.zero_add, show x + ((0 : Nat) : Int) = x by omega]; rfl
  | a + 1, b, x => by
    rw [show a + 1 + b = (a + b) + 1 by omega, rowP_s, rowP_s, rowP_add P y a b (x + 1), show x + 1 + (a : Int) = x + ((a + 1 : Nat) : Int) by omega]
    split <;> rfl
theorem rowP_congr {P Q : Int → Int → Bool} {y : Int} : ∀ {m : Nat} {x : Int}, (∀ a, x ≤ a → a < x + m → P a y = Q a y) → rowP P y m x = rowP Q y m x
  | 0, _, _ => rfl
  | m + 1, x, h => by
    unfold rowP
    rw [h x (by omega) (by omega), rowP_congr (m := m) (x := x + 1) fun a h1 h2 => h a (by omega) (by omega)]
theorem gridP_congr {P Q : Int → Int → Bool} {m : Nat} {x : Int} : ∀ {n : Nat} {y : Int}, (∀ a b, x ≤ a → a < x + m → y ≤ b → b < y + n → P a b = Q a b) → gridP P m x n y = gridP Q m x n y
  | 0, _, _ => rfl
  | n + 1, y, h => by
    unfold gridP
    rw [rowP_congr fun a h1 h2 => h a y h1 h2 (by omega) (by omega), gridP_congr (n := n) (y := y + 1) fun a b h1 h2 h3 h4 => h a b h1 h2 (by omega) (by omega)]
theorem gridP_no {P : Int → Int → Bool} {m : Nat} {x : Int} : ∀ {n : Nat} {y : Int}, (∀ a b, x ≤ a → a < x + m → y ≤ b → b < y + n → P a b = false) → gridP P m x n y = []
  | 0, _, _ => rfl
  | n + 1, y, h => by
    unfold gridP
    rw [rowP_no fun a h1 h2 => h a y h1 h2 (by omega) (by omega), gridP_no (n := n) (y := y + 1) fun a b h1 h2 h3 h4 => h a b h1 h2 (by omega) (by omega)]
    rfl
theorem gridP_add (P : Int → Int → Bool) (m : Nat) (x : Int) : ∀ (a b : Nat) (y : Int), gridP P m x (a + b) y = gridP P m x a y ++ gridP P m x b (y + a)
  | 0, b, y => by rw [Nat.zero_add, show y + ((0 : Nat) : Int) = y by omega]; rfl
  | a + 1, b, y => by
    rw [show a + 1 + b = (a + b) + 1 by omega, gridP_s, gridP_s, gridP_add P m x a b (y + 1), show y + 1 + (a : Int) = y + ((a + 1 : Nat) : Int) by omega, List.append_assoc]
theorem gridP_box {P Q : Int → Int → Bool} {W H : Nat} {x y : Int} {w h : Nat} (hx : 0 ≤ x ∧ x + w ≤ W) (hy : 0 ≤ y ∧ y + h ≤ H) (hin : ∀ a b, x ≤ a → a < x + w → y ≤ b → b < y + h → P a b = Q a b) (hout : ∀ a b, ¬ (x ≤ a ∧ a < x + w ∧ y ≤ b ∧ b < y + h) → P a b = false) : gridP P W 0 H 0 = gridP Q w x h y := by
  obtain ⟨X, rfl⟩ := Int.eq_ofNat_of_zero_le hx.1
  obtain ⟨Y, rfl⟩ := Int.eq_ofNat_of_zero_le hy.1
  obtain ⟨r, hr⟩ : ∃ r, W = X + (w + r) := ⟨W - X - w, by omega⟩
  obtain ⟨s, hs⟩ : ∃ s, H = Y + (h + s) := ⟨H - Y - h, by omega⟩
  rw [hs, gridP_add, gridP_add, gridP_no (n := Y) (fun a b _ _ _ _ => hout a b (by omega)), gridP_no (n := s) (fun a b _ _ _ _ => hout a b (by omega)), List.nil_append, List.append_nil, Int.zero_add]
  have : ∀ (n : Nat) (q : Nat), q + n ≤ h → gridP P W 0 n ((Y : Int) + q) = gridP Q w (X : Int) n ((Y : Int) + q) := by
    intro n
    induction n with
    | zero => intro q _; rfl
    | succ n ih =>
      intro q hq
      unfold gridP
      rw [hr, rowP_add, rowP_add, rowP_no (m := X) (fun a _ _ => hout a _ (by omega)), rowP_no (m := r) (fun a _ _ => hout a _ (by omega)), List.nil_append, List.append_nil, Int.zero_add, rowP_congr (Q := Q) (fun a h1 h2 => hin a _ h1 h2 (by omega) (by omega)), ← hr]
      have := ih (q + 1) (by omega)
      rw [show (Y : Int) + ((q + 1 : Nat) : Int) = (Y : Int) + q + 1 by omega] at this
      rw [this]
  have := this h 0 (by omega)
  rw [show (Y : Int) + ((0 : Nat) : Int) = (Y : Int) by omega] at this
  exact this
theorem rowP_mem {P : Int → Int → Bool} {y : Int} : ∀ {m : Nat} {x : Int} {c : Int × Int}, c ∈ rowP P y m x ↔ c.2 = y ∧ x ≤ c.1 ∧ c.1 < x + m ∧ P c.1 y = true
  | 0, x, c => by
    unfold rowP
    constructor
    · intro h; cases h
    · rintro ⟨_, h1, h2, _⟩; omega
  | m + 1, x, c => by
    unfold rowP
    have ih := rowP_mem (P := P) (y := y) (m := m) (x := x + 1) (c := c)
    by_cases h : P x y = true
    · rw [if_pos h, List.mem_cons, ih]
      constructor
      · rintro (rfl | ⟨h1, h2, h3, h4⟩)
        · exact ⟨rfl, by simp, by simp; omega, h⟩
        · exact ⟨h1, by omega, by omega, h4⟩
      · rintro ⟨h1, h2, h3, h4⟩
        by_cases e : c.1 = x
        · left; exact Prod.ext e h1
        · right; exact ⟨h1, by omega, by omega, h4⟩
    · rw [if_neg h, ih]
      constructor
      · rintro ⟨h1, h2, h3, h4⟩; exact ⟨h1, by omega, by omega, h4⟩
      · rintro ⟨h1, h2, h3, h4⟩
        by_cases e : c.1 = x
        · rw [e] at h4; exact absurd h4 h
        · exact ⟨h1, by omega, by omega, h4⟩
theorem gridP_mem {P : Int → Int → Bool} {m : Nat} {x : Int} : ∀ {n : Nat} {y : Int} {c : Int × Int}, c ∈ gridP P m x n y ↔ (y ≤ c.2 ∧ c.2 < y + n) ∧ (x ≤ c.1 ∧ c.1 < x + m) ∧ P c.1 c.2 = true
  | 0, y, c => by
    unfold gridP
    constructor
    · intro h; cases h
    · rintro ⟨⟨h1, h2⟩, _⟩; omega
  | n + 1, y, c => by
    unfold gridP
    rw [List.mem_append, rowP_mem, gridP_mem (n := n) (y := y + 1)]
    constructor
    · rintro (⟨h1, h2, h3, h4⟩ | ⟨h1, h2, h3⟩)
      · exact ⟨by omega, ⟨h2, h3⟩, by rw [h1]; exact h4⟩
      · exact ⟨by omega, h2, h3⟩
    · rintro ⟨h1, h2, h3⟩
      by_cases e : c.2 = y
      · left; exact ⟨e, h2.1, h2.2, by rw [← e]; exact h3⟩
      · right; exact ⟨by omega, h2, h3⟩
theorem rowP_next {P Q : Int → Int → Bool} {y : Int} (h : ∀ a, Q (a + 1) y = P a y) : ∀ {m : Nat} {x : Int}, rowP Q y m (x + 1) = (rowP P y m x).map fun c => (c.1 + 1, c.2)
  | 0, _ => rfl
  | m + 1, x => by
    unfold rowP
    rw [h x, rowP_next h (m := m) (x := x + 1)]
    split <;> rfl
theorem gridP_next {P Q : Int → Int → Bool} (h : ∀ a b, Q (a + 1) b = P a b) {m : Nat} {x : Int} : ∀ {n : Nat} {y : Int}, gridP Q m (x + 1) n y = (gridP P m x n y).map fun c => (c.1 + 1, c.2)
  | 0, _ => rfl
  | n + 1, y => by
    unfold gridP
    rw [rowP_next (fun a => h a y), gridP_next h (n := n) (y := y + 1), List.map_append]
theorem rowP_len (P : Int → Int → Bool) (y : Int) : ∀ (m : Nat) (x : Int), (rowP P y m x).length ≤ m
  | 0, _ => Nat.le_refl _
  | m + 1, x => by
    have := rowP_len P y m (x + 1)
    unfold rowP
    split
    · simp; omega
    · omega
theorem gridP_len (P : Int → Int → Bool) (m : Nat) (x : Int) : ∀ (n : Nat) (y : Int), (gridP P m x n y).length ≤ n * m
  | 0, _ => by unfold gridP; simp
  | n + 1, y => by
    have h1 := rowP_len P y m x
    have h2 := gridP_len P m x n (y + 1)
    unfold gridP
    rw [List.length_append, Nat.add_mul, Nat.one_mul]; omega
end Go.Proofs.YthffbfkcmbgghaaGreat
