/-
  The law CableEvery, for every input.
-/
import Derived.Test.YtghglgaimhfedaaZSc
namespace Go.Proofs.Ytghglgaimhfedaa
open Go.RowKit

theorem every_near (v u x : Value) (l : Ln) (b : List (Int × Int)) (ps : List Int) (w : World) (hs : Sl e3 3 w v l.ks) (hu : Sl e2 2 w u b) (hx : Sl e1 1 w x ps) (hn : l.ks.length ≤ 12) (hc : b.length ≤ 14) (hp : ps.length ≤ 20) :
    Calls Try.prog 9 #[.agg #[.int .i64 l.x, .int .i64 l.z, v], u, x] w fun e w' => e = .returned (.bool true) ∧ Below w.heap.size w w' := by
  by_cases h1 : boxErr l b = 0
  · exact every_in v u x l b ps w hs hu hx hn hc hp h1
  · exact every_out v u x l b ps w hs hu hx fun h => h1 h.2.2.2
theorem every_far (v u x : Value) (l : Ln) (b : List (Int × Int)) (ps : List Int) (w : World) (hs : Sl e3 3 w v l.ks) (hu : Sl e2 2 w u b) (hx : Sl e1 1 w x ps) (hn : ¬ (l.ks.length ≤ 12 ∧ b.length ≤ 14 ∧ ps.length ≤ 20)) :
    Calls Try.prog 9 #[.agg #[.int .i64 l.x, .int .i64 l.z, v], u, x] w fun e w' => e = .returned (.bool true) ∧ Below w.heap.size w w' :=
  every_out v u x l b ps w hs hu hx fun h => hn ⟨h.1, h.2.1, h.2.2.1⟩
end Go.Proofs.Ytghglgaimhfedaa
