/-
  Spans, and the bed at a position: the program and the reference say the same.
-/
import Derived.Test.YtidahkefillmeaaGreatDoorZS9b
import Derived.Test.YtidahkefillmeaaGreatDoorZS9f
set_option linter.all false
namespace Go.Proofs.YtidahkefillmeaaGreatDoor
open Go Go.RowKit
theorem tail_eq {β : Type} (A : List Ran) (s i : Int) (hA : A.length < 60000) (h : -1000000 ≤ s ∧ s ≤ i ∧ i ≤ 1000000) (K : List Ran → Int → Int → Option β) :
    (if s < i then (if (A.length : Int) < (65536 : Int) then (K (A ++ [(s, (IntKind.wrap .i64 (i - (1 : Int))))]) (IntKind.wrap .i64 (i + (1 : Int))) (IntKind.wrap .i64 (i + (1 : Int)))) else none) else (K A (IntKind.wrap .i64 (i + (1 : Int))) (IntKind.wrap .i64 (i + (1 : Int))))) = K (A ++ tailR s i) (i + 1) (i + 1) := by
  rw [wrapB (x := i + 1) (by omega) (by omega), wrapB (x := i - 1) (by omega) (by omega)]
  unfold tailR
  by_cases c : s < i
  · rw [if_pos c, if_pos (by omega), if_pos c]
  · rw [if_neg c, if_neg c, List.append_nil]
theorem b_ranges_same {fu : Nat} (l : List Ran) (hl : l.length < 1000000) : ∀ (n i : Nat), i ≤ l.length → l.length - i < n → b_Ranges_L1 fu l l n (i : Int) = some (.inr ())
  | 0, i, _, h => by omega
  | n + 1, i, hi, h => by
    rcases Nat.lt_or_ge i l.length with h1 | h1
    · have he : l[i]? = some l[i] := List.getElem?_eq_getElem h1
      obtain ⟨g1, g2, g3⟩ := idx he
      rw [b_Ranges_L1, if_pos g1, if_pos g2, g3, Option.bind_some, if_pos g1, Option.bind_some, if_pos rfl, if_pos rfl, wrapS (by omega)]
      exact b_ranges_same l hl n (i + 1) (by omega) (by omega)
    · rw [b_Ranges_L1, if_neg (by omega)]
theorem b_ranges {fu : Nat} {l : List Ran} (hl : l.length < fu) (hl' : l.length < 1000000) : b_Ranges fu l l = some true := by
  have := b_ranges_same (fu := fu) l hl' fu 0 (by omega) (by omega)
  rw [show ((0 : Nat) : Int) = 0 from rfl] at this
  unfold b_Ranges
  rw [if_pos rfl, this]; rfl
end Go.Proofs.YtidahkefillmeaaGreatDoor
