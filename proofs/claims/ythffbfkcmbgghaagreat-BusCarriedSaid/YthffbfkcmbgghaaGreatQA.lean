/-
  Plain mathematics of paths and posts (chapter 1, turns): what the Go functions compute, on lists of pairs of integers.
-/
set_option linter.all false
namespace Go.Proofs.YthffbfkcmbgghaaGreat
def inB (n lo hi : Int) : Bool := decide (lo ≤ n ∧ n ≤ hi)
def inR (m n : Int) : Bool := inB n (-m) m
abbrev Pt := Int × Int
def placeOk (p : Pt) : Bool := inR 10000 p.1 && inR 10000 p.2
def wayAt (path : List Pt) (i : Nat) : Pt × Pt := (path.getD i (0, 0), path.getD ((i + 1) % path.length) (0, 0))
def ways (path : List Pt) : List (Pt × Pt) := (List.range path.length).map (wayAt path)
theorem placeOk_iff (p : Pt) : placeOk p = true ↔ (-10000 ≤ p.1 ∧ p.1 ≤ 10000) ∧ (-10000 ≤ p.2 ∧ p.2 ≤ 10000) := by
  simp [placeOk, inR, inB]
structure Sm (a : Pt) : Prop where
  x0 : -10000 ≤ a.1
  x1 : a.1 ≤ 10000
  y0 : -10000 ≤ a.2
  y1 : a.2 ≤ 10000
theorem Sm.of {a : Pt} (h : placeOk a = true) : Sm a := by
  have := (placeOk_iff a).1 h
  exact ⟨this.1.1, this.1.2, this.2.1, this.2.2⟩
theorem getD_eq {α : Type} (xs : List α) (k : Nat) (d : α) (h : k < xs.length) : xs.getD k d = xs[k] := by simp [h]
theorem ways_len (path : List Pt) : (ways path).length = path.length := by simp [ways]
theorem ways_at (path : List Pt) (i : Nat) (h : i < path.length) : (ways path)[i]'(by rw [ways_len]; exact h) = wayAt path i := by simp [ways]
end Go.Proofs.YthffbfkcmbgghaaGreat

namespace Go.Proofs.YthffbfkcmbgghaaGreat
abbrev Lk := Int × Int × Int
structure Ln where
  x : Int
  z : Int
  ks : List Lk
def zsF (z : Int) : List Lk → List Int
  | [] => []
  | k :: r => (z + k.2.1) :: zsF (z + k.2.1) r
def zs (l : Ln) : List Int := zsF l.z l.ks
def slackF : List Int → Nat → List Int
  | [], _ => []
  | z :: r, i => if z ≤ 0 then (i : Int) :: slackF r (i + 1) else slackF r (i + 1)
def slack (l : Ln) : List Int := slackF (zs l) 0
def minF (m : Int) : List Int → Int
  | [] => m
  | z :: r => minF (min m z) r
def least (l : Ln) : Int := l.z - minF ((zs l).headD 0) (zs l) + 1
structure Pl where
  h : Int
  wt : Int
  d : Int
  lo : Int
  hi : Int
  z : Int
def pullsF (lo hi z : Int) : List Lk → List (Int × Int) → List Pl
  | k :: ks, r :: b => ⟨k.1, k.2.1, k.2.2, lo + k.2.2 * r.1, hi + k.2.2 * r.2, z + k.2.1⟩ :: pullsF (lo + k.2.2 * r.1) (hi + k.2.2 * r.2) (z + k.2.1) ks b
  | _, _ => []
def pulls (l : Ln) (b : List (Int × Int)) : List Pl := pullsF l.x l.x l.z l.ks b
def still (c : List Int) : List (Int × Int) := c.map fun n => (n, n)
def tensions (l : Ln) (c : List Int) : List (Int × Int) := (pulls l (still c)).map fun p => (p.lo, p.z)
structure LnOk (l : Ln) : Prop where
  x0 : -10000 ≤ l.x
  x1 : l.x ≤ 10000
  z0 : -10000 ≤ l.z
  z1 : l.z ≤ 10000
  n0 : 0 < l.ks.length
  n1 : l.ks.length ≤ 10
  ok : ∀ k ∈ l.ks, 1 ≤ k.1 ∧ k.1 ≤ 1000 ∧ -1000 ≤ k.2.1 ∧ k.2.1 ≤ 1000 ∧ 0 ≤ k.2.2 ∧ k.2.2 ≤ 20
structure BoxOk (l : Ln) (b : List (Int × Int)) : Prop where
  len : b.length = l.ks.length
  ok : ∀ r ∈ b, -50 ≤ r.1 ∧ r.1 ≤ r.2 ∧ r.2 ≤ 50
structure PlOk (p : Pl) : Prop where
  h0 : 1 ≤ p.h
  h1 : p.h ≤ 1000
  l0 : -20000 ≤ p.lo
  l1 : p.lo ≤ 20000
  u0 : -20000 ≤ p.hi
  u1 : p.hi ≤ 20000
  z0 : -20000 ≤ p.z
  z1 : p.z ≤ 20000
end Go.Proofs.YthffbfkcmbgghaaGreat
