/-
  Walks of chapter 1's squares and fractions in lowest terms.
-/
import Derived.Test.YthffbfkcmbgghaaGreatQI
import Derived.Deep.LoopGhost
import Derived.Test.YthffbfkcmbgghaaGreatQB
import Derived.Lib.Mul64
import Derived.Laws.Bits64b
import Derived.Deep.RegionWith
set_option linter.all false
namespace Go.Proofs.YthffbfkcmbgghaaGreat
open Go.RowKit Go.Shelf
def sq (t : Int × Int) : Int := t.1 * t.1 + t.2 * t.2
def low (n d : Int) : Int × Int := (n / (Int.gcd n d : Int), d / (Int.gcd n d : Int))
def DivOk (b : Int) (xs : List Int) (G : Nat) : Prop := xs.foldl (fun g n => Nat.gcd g n.natAbs) b.natAbs = G
theorem DivOk.step {b : Int} {xs : List Int} {k : Nat} {G : Nat} (h : k < xs.length) (hd : DivOk b (xs.drop k) G) {c : Int} (hc : c.natAbs = Nat.gcd b.natAbs (xs[k]).natAbs) : DivOk c (xs.drop (k + 1)) G := by
  unfold DivOk at *
  rw [List.drop_eq_getElem_cons h, List.foldl_cons] at hd
  rw [hc]; exact hd
end Go.Proofs.YthffbfkcmbgghaaGreat

namespace Go.Proofs.YthffbfkcmbgghaaGreat
open Go.RowKit Go.Shelf
attribute [local go_sem] monoUpon_value monoUpon_skip monoUpon_enter
def across (a b : Int × Int) : Int := a.1 * b.2 - b.1 * a.2
def bend (a b : Int × Int) : Int × Int := low (across a b * across a b) (sq a * sq b)
structure Fo (t : Int × Int) : Prop where
  x : -20000 ≤ t.1 ∧ t.1 ≤ 20000
  z : 0 < t.2 ∧ t.2 ≤ 20000
end Go.Proofs.YthffbfkcmbgghaaGreat

namespace Go.Proofs.YthffbfkcmbgghaaGreat
open Go.RowKit Go.Shelf
namespace M64
theorem addN (a b : Nat) : (a : Int) + (b : Int) = ((a + b : Nat) : Int) := (Int.natCast_add a b).symm
end M64
end Go.Proofs.YthffbfkcmbgghaaGreat

namespace Go.Proofs.YthffbfkcmbgghaaGreat
open Go.RowKit Go.Shelf
end Go.Proofs.YthffbfkcmbgghaaGreat
