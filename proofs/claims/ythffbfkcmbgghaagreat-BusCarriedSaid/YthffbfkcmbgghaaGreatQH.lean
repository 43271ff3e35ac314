/-
  Walks of chapter 1's turns: the two exported calls; copies of paths; comparisons of lists.
-/
import Derived.Test.YthffbfkcmbgghaaGreatQD
set_option linter.all false
namespace Go.Proofs.YthffbfkcmbgghaaGreat
open Go.RowKit Go.Shelf
end Go.Proofs.YthffbfkcmbgghaaGreat

namespace Go.Proofs.YthffbfkcmbgghaaGreat
open Go.RowKit Go.Shelf
end Go.Proofs.YthffbfkcmbgghaaGreat

namespace Go.Proofs.YthffbfkcmbgghaaGreat
open Go.RowKit Go.Shelf
theorem At.grown {W W' : World} {p : Addr} {v : Value} {row : Option Nat} (h : At W p v) (hg : W.grownBy W' row) (hne : row ≠ some p.block) : At W' p v :=
  ⟨hg.cell h.1 (Ne.symm hne), (World.frozen?_of_block (hg.block _ h.lt (Ne.symm hne))).trans h.2⟩
theorem Ow.apart {α : Type} {enc : α → List Value} {s : Nat} {e : TypeId} {base : Nat} {w : World} {v : Value} {xs : List α} (h : Ow enc s e base w v xs) {k : Nat} (hk : k < base) : v.ownBlock ≠ some k :=
  fun e => by have := (World.ownsRow.lt h k e).1; omega
end Go.Proofs.YthffbfkcmbgghaaGreat
