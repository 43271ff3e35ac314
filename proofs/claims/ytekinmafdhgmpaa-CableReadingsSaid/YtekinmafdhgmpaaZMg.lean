/-
  The law CableTensions, walked: the tensions, the balance and the strongest link are as the reference says.
-/
import Derived.Test.YtekinmafdhgmpaaZMf
import Derived.Test.YtekinmafdhgmpaaQK
namespace Go.Proofs.Ytekinmafdhgmpaa
open Go.RowKit Go.Shelf

theorem awakeB (w : World) : Calls Try.prog 9 #[] w fun e w' => e = .returned (.bool true) ∧ Below w.heap.size w w' := awake_any w
theorem fewB_true {k : Nat} {n : Nat} (h : k ≤ 12) (h' : n ≤ 14) : fewB k (n : Int) = true := by unfold fewB; rw [decide_eq_true_eq]; omega
theorem fewB_false {k : Nat} {n : Nat} (h : ¬ (k ≤ 12 ∧ n ≤ 14)) : fewB k (n : Int) = false := by unfold fewB; rw [decide_eq_false_iff_not]; omega
/-- Behind the first call of a law: the box of its line, and its arguments, read as before. -/
theorem law_hx {w w1 : World} {l : Ln} {v : Value} (hs : Sl e3 3 w v l.ks) (P : World → Prop) (hP : ∀ W, Below w.heap.size w W → P W) (b1 : Below (w.alloc (.cells #[.int .i64 l.x, .int .i64 l.z, v] 26)).heap.size (w.alloc (.cells #[.int .i64 l.x, .int .i64 l.z, v] 26)) w1) :
    Hid (∀ W, Below w1.heap.size w1 W → (W.cell? ⟨w.heap.size, 0, none⟩ = some (.int .i64 l.x) ∧ W.cell? ⟨w.heap.size, 1, none⟩ = some (.int .i64 l.z) ∧ W.cell? ⟨w.heap.size, 2, none⟩ = some v) ∧ Sl e3 3 W v l.ks ∧ P W ∧ Below w.heap.size w W) := by
  intro W hW
  have bx := fun j u hu => ((At.new w #[.int .i64 l.x, .int .i64 l.z, v] 26 j u hu).below b1).below hW
  have hb : Below w.heap.size w W := below_tr (below_tr (below_alloc1 _ _) b1) hW
  exact ⟨⟨(bx 0 _ rfl).1, (bx 1 _ rfl).1, (bx 2 _ rfl).1⟩, hs.below hb, hP W hb, hb⟩
end Go.Proofs.Ytekinmafdhgmpaa
