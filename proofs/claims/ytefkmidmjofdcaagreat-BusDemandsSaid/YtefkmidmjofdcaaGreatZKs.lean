/-
  A variable in a box that holds a row of the call's own; kept by loops over iterators.
-/
import Derived.Test.YtefkmidmjofdcaaGreatZKr
set_option linter.all false
namespace Go.Proofs.YtefkmidmjofdcaaGreat
open Go.RowKit Go.Shelf

/-- The cell p holds a slice that owns the elements xs, in blocks from base on. -/
def Hold {α : Type} (enc : α → List Value) (s : Nat) (e : TypeId) (base : Nat) (W : World) (p : Addr) (xs : List α) : Prop := ∃ v, At W p v ∧ Ow enc s e base W v xs
section
variable {α : Type} {enc : α → List Value} {s : Nat} {e : TypeId} {base : Nat} {W W' : World} {p : Addr} {xs : List α}
theorem Hold.below (h : Hold enc s e base W p xs) (hb : Below W.heap.size W W') : Hold enc s e base W' p xs := by
  obtain ⟨v, h1, h2⟩ := h
  exact ⟨v, h1.below hb, h2.below hb⟩
theorem Hold.al (h : Hold enc s e base W p xs) (o : Obj) : Hold enc s e base (W.alloc o) p xs := h.below (below_alloc1 _ _)
theorem Ow.turn {v : Value} {N : Nat} (h : Ow enc s e base W v xs) (ht : Turn N W W') : Ow enc s e base W' v xs := by
  obtain ⟨l, _, hg, o, h2, h3⟩ := ht.kept
  refine World.ownsRow.kept h hg ?_
  cases hv : v.ownBlock with
  | none => exact .inl rfl
  | some g =>
    refine .inr fun e' => ?_
    cases e'
    rcases h.2 with ⟨h4, _⟩ | ⟨g', cap, cur, h4, _, hh, _⟩
    · rw [h4] at hv; simp [Value.ownBlock] at hv
    · rw [h4] at hv
      simp only [Value.ownBlock, Option.some.injEq] at hv
      rw [hv, h2] at hh
      cases hh
      simp [Obj.isCells] at h3
theorem Hold.turn {N : Nat} (h : Hold enc s e base W p xs) (ht : Turn N W W') : Hold enc s e base W' p xs := by
  obtain ⟨v, h1, h2⟩ := h
  exact ⟨v, h1.turn ht, h2.turn ht⟩
theorem own_hold {β : Type} (B : Nat) (p : Addr) (f : β → List α) : OwnFrom B (fun b W => Hold enc s e base W p (f b)) :=
  fun b A C row hs hg hr => by
    obtain ⟨v, h1, h2⟩ := hs
    exact ⟨v, own_at B p (fun _ : β => v) b A C row h1 hg hr, own_ow B enc s e base (fun _ : β => v) f b A C row h2 hg hr⟩
theorem At.grown' {u : Value} {row : Option Nat} (h : At W p u) (hg : W.grownBy W' row) (hne : row ≠ some p.block) : At W' p u :=
  ⟨hg.cell h.1 (Ne.symm hne), (World.frozen?_of_block (hg.block _ h.lt (Ne.symm hne))).trans h.2⟩
theorem Ow.apart' {v : Value} (h : Ow enc s e base W v xs) {k : Nat} (hk : k < base) : v.ownBlock ≠ some k :=
  fun e => by have := (World.ownsRow.lt h k e).1; omega
theorem Ow.setFar {v : Value} (h : Ow enc s e base W v xs) (hp : p.block < base) (u : Value) : Ow enc s e base (W.setCell p u) v xs := ownsRow_setCell_below h hp u
/-- What is left where an element has been appended and the slice stored back. -/
theorem Hold.put {v1 : Value} {W1 : World} {ys : List α} (hat : At W1 p (.slice none 0 0) ∨ ∃ u, At W1 p u) (ho : Ow enc s e base W1 v1 ys) (hp : p.block < base) : Hold enc s e base (W1.setCell p v1) p ys := by
  obtain ⟨u, hu⟩ : ∃ u, At W1 p u := by
    rcases hat with h | h
    · exact ⟨_, h⟩
    · exact h
  exact ⟨v1, hu.set, ho.setFar hp _⟩
/-- A row's block holds cells: so a loop's round may write it. -/
theorem Ow.cells_only {v : Value} (h : Ow enc s e base W v xs) : ∀ k, v.ownBlock = some k → ∀ o : Obj, W.heap[k]? = some o → o.isCells = true := by
  intro k hk o ho
  rcases h.2 with ⟨h4, _⟩ | ⟨g', cap, cur, h4, _, hh, _⟩
  · rw [h4] at hk; simp [Value.ownBlock] at hk
  · rw [h4] at hk
    simp only [Value.ownBlock, Option.some.injEq] at hk
    rw [hk, ho] at hh
    cases hh
    rfl
end
end Go.Proofs.YtefkmidmjofdcaaGreat
