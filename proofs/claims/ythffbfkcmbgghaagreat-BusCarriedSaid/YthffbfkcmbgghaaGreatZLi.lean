/-
  Walks of chapter 1's pulls: the box of single currents, what drags carry, the iterator over pulls.
-/
import Derived.Test.YthffbfkcmbgghaaGreatQF
import Derived.Test.YthffbfkcmbgghaaGreatQB
import Derived.Laws.MakeOwn
import Derived.StillTailTactics
import Derived.Deep.MidRow
set_option linter.all false
namespace Go.Proofs.YthffbfkcmbgghaaGreat
open Go.RowKit Go.Shelf
/-! ### Rows of pairs that are written in place -/
def Row2 (W : World) (g : Nat) (xs : List (Int × Int)) : Prop := ∀ i (h : i < xs.length), At W ⟨g, i * 2, none⟩ (.int .i64 xs[i].1) ∧ At W ⟨g, i * 2 + 1, none⟩ (.int .i64 xs[i].2)
theorem Row2.set {W : World} {g : Nat} {xs : List (Int × Int)} (h : Row2 W g xs) (i : Nat) (hi : i < xs.length) (x y : Int) : Row2 ((W.setCell ⟨g, i * 2, none⟩ (.int .i64 x)).setCell ⟨g, i * 2 + 1, none⟩ (.int .i64 y)) g (xs.set i (x, y)) := by
  intro j hj
  have hj' : j < xs.length := by simpa using hj
  rw [List.getElem_set]
  by_cases e : i = j
  · subst e
    rw [if_pos rfl]
    exact ⟨((h i hi).1.set).other (by simp), ((h i hi).2.other (by simp)).set⟩
  · rw [if_neg e]
    exact ⟨((h j hj').1.other (by simp <;> omega)).other (by simp <;> omega), ((h j hj').2.other (by simp <;> omega)).other (by simp <;> omega)⟩
theorem Row2.sl {W : World} {g : Nat} {xs : List (Int × Int)} (h : Row2 W g xs) (hg : g < W.heap.size) : Sl e2 2 W (.slice (some ⟨g, 0, none⟩) xs.length xs.length) xs := by
  refine ⟨_, _, rfl, Nat.le_refl _, fun _ => ⟨g, 0, rfl, hg, fun i hi j hj => ?_⟩⟩
  obtain ⟨h1, h2⟩ := h i hi
  match j, hj with
  | 0, _ => simpa [e2] using h1.1
  | 1, _ => simpa [e2] using h2.1
theorem madeCells_at (n j : Nat) (h : j < n) : (madeCells #[.int .i64 0, .int .i64 0] n)[j]? = some (.int .i64 0) := by
  have h2 : j % 2 = 0 ∨ j % 2 = 1 := by omega
  simp only [madeCells, Array.getElem?_map]
  rw [Array.getElem?_eq_getElem (by simpa using h)]
  rcases h2 with h2 | h2 <;> simp [h2]
theorem Row2.made (W : World) (n : Nat) (t : TypeId) : Row2 (W.alloc (.cells (madeCells #[.int .i64 0, .int .i64 0] (n * 2)) t)) W.heap.size (List.replicate n (0, 0)) := by
  intro i hi
  have hi' : i < n := by simpa using hi
  simp only [List.getElem_replicate]
  exact ⟨At.new W _ t _ _ (madeCells_at _ _ (by omega)), At.new W _ t _ _ (madeCells_at _ _ (by omega))⟩
theorem Row2.below {W W' : World} {g : Nat} {xs : List (Int × Int)} (h : Row2 W g xs) (hb : Below W.heap.size W W') : Row2 W' g xs := fun i hi => ⟨(h i hi).1.below hb, (h i hi).2.below hb⟩
/-! ### still -/
/-! ### carried -/
/-! ### pulls -/
end Go.Proofs.YthffbfkcmbgghaaGreat
