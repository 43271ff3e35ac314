/-
  Strings of sonars' devices and scenes: the law, for numbers that an int holds.
-/
import Derived.Test.YtlfmdkmjfokgbaaGreatDoorQGc
import Derived.Test.YtlfmdkmjfokgbaaGreatDoorZEf
set_option linter.all false
namespace Go.Proofs.YtlfmdkmjfokgbaaGreatDoor
open Go Go.RowKit
theorem l4_SonarStrings_true (a0 : List (Int × Int × Int)) (a1_0 a1_1 : Int) (a1_2 : List (Int × Int × Int × Int × Bool)) (a2 : Int) (hr : ∀ x ∈ [a1_0, a1_1], -9223372036854775808 ≤ x ∧ x ≤ 9223372036854775807)
  (hq0 : ∀ x ∈ a0, Cm.Rg64 (x.1) ∧ Cm.Rg64 (x.2.1) ∧ Cm.Rg64 (x.2.2)) (hq2 : ∀ x ∈ a1_2, Cm.Rg64 (x.1) ∧ Cm.Rg64 (x.2.1) ∧ Cm.Rg64 (x.2.2.1) ∧ Cm.Rg64 (x.2.2.2.1)) : ∃ fu, l4_SonarStrings fu a0 a1_0 a1_1 a1_2 a2 = some true :=
 ⟨100000, sonar_true (Nat.le_refl _) a2 (fun k hm x hx => by
  obtain ⟨h1, h2, h3⟩ := hq0 k hm
  simp only [List.mem_cons, List.not_mem_nil, or_false] at hx
  rcases hx with rfl | rfl | rfl <;> (first | exact ⟨h1.lo, h1.hi⟩ | exact ⟨h2.lo, h2.hi⟩ | exact ⟨h3.lo, h3.hi⟩)) hr (fun k hm x hx => by
  obtain ⟨h1, h2, h3, h4⟩ := hq2 k hm
  simp only [List.mem_cons, List.not_mem_nil, or_false] at hx
  rcases hx with rfl | rfl | rfl | rfl <;> (first | exact ⟨h1.lo, h1.hi⟩ | exact ⟨h2.lo, h2.hi⟩ | exact ⟨h3.lo, h3.hi⟩ | exact ⟨h4.lo, h4.hi⟩))⟩
end Go.Proofs.YtlfmdkmjfokgbaaGreatDoor
