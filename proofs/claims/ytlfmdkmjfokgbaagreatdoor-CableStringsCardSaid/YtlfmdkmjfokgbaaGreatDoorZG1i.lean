/-
  Strings of lines and boxes: the law, for numbers that an int holds.
-/
import Derived.Test.YtlfmdkmjfokgbaaGreatDoorQGb
import Derived.Test.YtlfmdkmjfokgbaaGreatDoorZEf
set_option linter.all false
namespace Go.Proofs.YtlfmdkmjfokgbaaGreatDoor
open Go Go.RowKit
theorem l1_CableStrings_true (a0_0 a0_1 : Int) (a0_2 : List (Int × Int × Int)) (a1 : List (Int × Int)) (a2 : Int) (hr : ∀ x ∈ [a0_0, a0_1], -9223372036854775808 ≤ x ∧ x ≤ 9223372036854775807)
    (hk : ∀ x ∈ a0_2, Cm.Rg64 (x.1) ∧ Cm.Rg64 (x.2.1) ∧ Cm.Rg64 (x.2.2)) (hb : ∀ x ∈ a1, Cm.Rg64 (x.1) ∧ Cm.Rg64 (x.2)) : ∃ fu, l1_CableStrings fu a0_0 a0_1 a0_2 a1 a2 = some true :=
  ⟨100000, law_true (Nat.le_refl _) a2 hr (fun k hm x hx => by
    obtain ⟨h1, h2, h3⟩ := hk k hm
    simp only [List.mem_cons, List.not_mem_nil, or_false] at hx
    rcases hx with rfl | rfl | rfl <;> (first | exact ⟨h1.lo, h1.hi⟩ | exact ⟨h2.lo, h2.hi⟩ | exact ⟨h3.lo, h3.hi⟩)) (fun x hx => by
    obtain ⟨r, hr, hx⟩ := ends_mem hx
    obtain ⟨h1, h2⟩ := hb r hr
    rcases hx with rfl | rfl <;> (first | exact ⟨h1.lo, h1.hi⟩ | exact ⟨h2.lo, h2.hi⟩))⟩
end Go.Proofs.YtlfmdkmjfokgbaaGreatDoor
