/-
  Opening arguments: slices whose elements read as rows of cells, structs of ints, one after another; closing a law's row. Nothing here names a function of the program.
-/
import Derived.Test.YthffbfkcmbgghaaGreatZKc
import Derived.ChangeSame
set_option linter.all false
namespace Go.Proofs.YthffbfkcmbgghaaGreat
open Go.ChangeShapes Go.WideShapes Go.ChangeAt Go.RowKit Go.Deep
section
variable {H : Type} {encH : TypeId × Value → H} {P : Program} {w : World} {base : Nat} {spare : Nat → Bool} {held : Bool}
theorem spot_none {a : Addr} {v : Value} (h : w.cell? a = some v) : a.spot = none := by
 unfold World.cell? at h
 cases hs : a.spot with
 | none => rfl
 | some q =>
  rw [hs] at h
  split at h <;> simp at h
theorem trod_list {α : Type} {enc : α → List Value} {s : Nat} (hs : 0 < s) (hlen : ∀ x, (enc x).length = s) {t e : TypeId} (ht : P.underlying t = some (.slice e)) (hc : P.cellsOf e = s)
  (hel : ∀ (fuel : Nat) (cs : List Value) (x : DataW H × List MemPlace), DataW.trod encH P w base spare held fuel e cs = some x → ∃ a : α, cs = enc a)
  {fuel : Nat} {cs : List Value} {x : DataW H × List MemPlace} (h : DataW.trod encH P w base spare held fuel t cs = some x) : ∃ (v : Value) (xs : List α), cs = [v] ∧ Sl enc s w v xs ∧ xs.length ≤ maxLen := by
 rcases open_slice ht h with ⟨h0, _⟩ | ⟨a', len, cap, m, n, D, Pl, hcs, _, hl, hm, hmm, _, hi⟩
 ·exact ⟨_, [], h0, Sl.nil _ _ _, by simp⟩
 ·have hml : len ≤ m := by rw [hmm]; split <;> omega
  obtain ⟨xs, hxl, hx⟩ := list_of (fun i (q : α) => ∀ j, j < s → w.cell? ((a'.add (i * s)).add j) = (enc q)[j]?) len (fun k hk => by
   obtain ⟨cs', hcs', ht'⟩ := hi k (by omega)
   rw [hc] at hcs'
   obtain ⟨q, rfl⟩ := hel _ _ _ ht'
   obtain ⟨_, _, hat⟩ := World.cells?_some hcs'
   exact ⟨q, fun j hj => hat j hj⟩)
  refine ⟨_, xs, hcs, ⟨some a', cap, by rw [hxl], by omega, fun hne => ?_⟩, by omega⟩
  have hpos : 0 < xs.length := List.length_pos_iff.2 hne
  have h0 := hx 0 hpos 0 hs
  rw [List.getElem?_eq_getElem (by rw [hlen]; exact hs)] at h0
  have hsp := spot_none h0
  obtain ⟨b, o, sp⟩ := a'
  have : sp = none := by simpa [Addr.add] using hsp
  subst this
  refine ⟨b, o, rfl, ?_, fun i hi' j hj => ?_⟩
  ·have := cell_lt h0
   simpa [Addr.add] using this
  ·have := hx i hi' j hj
   rwa [Go.WideShapes.add_plain, Go.WideShapes.add_plain] at this
end
end Go.Proofs.YthffbfkcmbgghaaGreat
