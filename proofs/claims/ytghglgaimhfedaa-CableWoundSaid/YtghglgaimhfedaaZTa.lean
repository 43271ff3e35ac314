/-
  Mathematics of the law CableWound: windings of paths in reverse, from another position, moved, one after the other, and of squares.
-/
import Derived.Test.YtghglgaimhfedaaQH
namespace Go.Proofs.Ytghglgaimhfedaa

/-- All ways from a on through the positions xs. -/
def prs : Pt → List Pt → List (Pt × Pt)
  | _, [] => []
  | a, b :: r => (a, b) :: prs b r
def swp (x : Pt × Pt) : Pt × Pt := (x.2, x.1)
theorem prs_len (a : Pt) (xs : List Pt) : (prs a xs).length = xs.length := by
  induction xs generalizing a with
  | nil => rfl
  | cons b r ih => simp [prs, ih]
theorem prs_append (a b : Pt) (xs ys : List Pt) : prs a (xs ++ b :: ys) = prs a (xs ++ [b]) ++ prs b ys := by
  induction xs generalizing a with
  | nil => rfl
  | cons c r ih => simp only [List.cons_append, prs, ih c]
theorem prs_rev (a b : Pt) (xs : List Pt) : prs b (xs.reverse ++ [a]) = ((prs a (xs ++ [b])).reverse).map swp := by
  induction xs generalizing a with
  | nil => rfl
  | cons c r ih =>
    rw [List.reverse_cons, List.append_assoc]
    show prs b (r.reverse ++ c :: [a]) = _
    rw [prs_append, ih c]
    simp only [List.cons_append, prs, List.reverse_cons, List.map_append, List.map_cons, List.map_nil]
    rfl
theorem prs_at (a : Pt) (xs : List Pt) : ∀ i, i < xs.length → (prs a xs)[i]? = some ((a :: xs).getD i (0, 0), xs.getD i (0, 0)) := by
  induction xs generalizing a with
  | nil => intro i h; simp at h
  | cons b r ih =>
    intro i h
    cases i with
    | zero => simp [prs]
    | succ i =>
      have := ih b i (by simpa using h)
      simp only [prs, List.getElem?_cons_succ, List.getD_cons_succ]
      exact this
theorem ways_prs (a : Pt) (r : List Pt) : ways (a :: r) = prs a (r ++ [a]) := by
  apply List.ext_getElem?
  intro i
  by_cases h : i < (a :: r).length
  · have h1 : i < (r ++ [a]).length := by simpa using h
    rw [prs_at a (r ++ [a]) i h1]
    unfold ways
    rw [List.getElem?_map, List.getElem?_range h]
    simp only [Option.map_some, wayAt, Option.some.injEq, Prod.mk.injEq]
    constructor
    · rw [← List.cons_append, getD_eq _ _ _ h, getD_eq _ _ _ (by simp at h ⊢; omega), List.getElem_append_left h]
    · by_cases e : i + 1 < (a :: r).length
      · rw [Nat.mod_eq_of_lt e]
        have e' : i < r.length := by simpa using e
        rw [getD_eq _ _ _ e, getD_eq _ _ _ h1, List.getElem_append_left e']
        rfl
      · have e1' : i + 1 = (a :: r).length := by omega
        have e2' : i = r.length := by simpa using e1'
        rw [e1', Nat.mod_self]
        subst e2'
        rw [getD_eq _ _ _ h1]
        simp
  · rw [List.getElem?_eq_none (by simp [ways] at h ⊢; omega), List.getElem?_eq_none (by rw [prs_len]; simp at h ⊢; omega)]
theorem side_swap (a b p : Pt) : side b a p = -side a b p := by
  obtain ⟨a1, a2⟩ := a
  obtain ⟨b1, b2⟩ := b
  obtain ⟨p1, p2⟩ := p
  unfold side
  simp only
  grind
theorem side_move (a b p m : Pt) : side (a.1 + m.1, a.2 + m.2) (b.1 + m.1, b.2 + m.2) (p.1 + m.1, p.2 + m.2) = side a b p := by
  unfold side
  simp only
  rw [show b.1 + m.1 - (a.1 + m.1) = b.1 - a.1 by omega, show b.2 + m.2 - (a.2 + m.2) = b.2 - a.2 by omega, show p.1 + m.1 - (a.1 + m.1) = p.1 - a.1 by omega, show p.2 + m.2 - (a.2 + m.2) = p.2 - a.2 by omega]
theorem cross_swap (a b p : Pt) : cross b a p = -cross a b p := by
  unfold cross
  rw [side_swap a b p]
  generalize side a b p = s
  by_cases h1 : a.2 ≤ p.2 ∧ p.2 < b.2 ∧ 0 < s
  · rw [if_pos h1, if_neg (by omega), if_pos (by omega)]
  · rw [if_neg h1]
    by_cases h2 : b.2 ≤ p.2 ∧ p.2 < a.2 ∧ s < 0
    · rw [if_pos h2, if_pos (by omega)]; rfl
    · rw [if_neg h2, if_neg (by omega), if_neg (by omega)]; rfl
theorem btw_swap (a n b : Int) : btw b n a = btw a n b := by unfold btw; rw [Int.min_comm, Int.max_comm]
theorem on_swap (a b p : Pt) : onWay b a p = onWay a b p := by
  unfold onWay
  rw [side_swap a b p, btw_swap, btw_swap a.2]
  congr 2
  rw [decide_eq_decide]
  omega
def mvP (m p : Pt) : Pt := (p.1 + m.1, p.2 + m.2)
theorem cross_move (a b p m : Pt) : cross (mvP m a) (mvP m b) (mvP m p) = cross a b p := by
  have h := side_move a b p m
  unfold cross mvP at *
  rw [h]
  simp only
  generalize side a b p = s
  by_cases h1 : a.2 ≤ p.2 ∧ p.2 < b.2 ∧ 0 < s
  · rw [if_pos h1, if_pos (by omega)]
  · rw [if_neg h1, if_neg (by omega)]
    by_cases h2 : b.2 ≤ p.2 ∧ p.2 < a.2 ∧ s < 0
    · rw [if_pos h2, if_pos (by omega)]
    · rw [if_neg h2, if_neg (by omega)]
theorem on_move (a b p m : Pt) : onWay (mvP m a) (mvP m b) (mvP m p) = onWay a b p := by
  have h := side_move a b p m
  unfold onWay btw mvP at *
  rw [h]
  simp only
  congr 1
  · congr 1
    rw [decide_eq_decide]; omega
  · rw [decide_eq_decide]; omega
theorem prs_move (m a : Pt) (xs : List Pt) : prs (mvP m a) (xs.map (mvP m)) = (prs a xs).map fun x => (mvP m x.1, mvP m x.2) := by
  induction xs generalizing a with
  | nil => rfl
  | cons b r ih => simp only [List.map_cons, prs, ih b]
/-- What is asked of a path: how it is wound around a post, and whether the post lies on it. -/
def wnd (p : Pt) (l : List (Pt × Pt)) : Int := (l.map fun w => cross w.1 w.2 p).sum
def hit (p : Pt) (l : List (Pt × Pt)) : Bool := l.any fun w => onWay w.1 w.2 p
theorem wnd_append (p : Pt) (l k : List (Pt × Pt)) : wnd p (l ++ k) = wnd p l + wnd p k := by
  unfold wnd; rw [List.map_append, List.sum_append]
theorem hit_append (p : Pt) (l k : List (Pt × Pt)) : hit p (l ++ k) = (hit p l || hit p k) := by unfold hit; rw [List.any_append]
theorem wnd_rev (p : Pt) (l : List (Pt × Pt)) : wnd p (l.reverse.map swp) = -wnd p l := by
  induction l with
  | nil => rfl
  | cons x r ih =>
    rw [List.reverse_cons, List.map_append, wnd_append, ih]
    have e : wnd p (x :: r) = cross x.1 x.2 p + wnd p r := by unfold wnd; rw [List.map_cons, List.sum_cons]
    have e2' : wnd p ([x].map swp) = cross x.2 x.1 p := by unfold wnd swp; simp
    rw [e, e2', cross_swap]
    omega
theorem hit_rev (p : Pt) (l : List (Pt × Pt)) : hit p (l.reverse.map swp) = hit p l := by
  induction l with
  | nil => rfl
  | cons x r ih =>
    rw [List.reverse_cons, List.map_append, hit_append, ih]
    have e : hit p (x :: r) = (onWay x.1 x.2 p || hit p r) := rfl
    have e2' : hit p ([x].map swp) = onWay x.2 x.1 p := by unfold hit swp; simp
    rw [e, e2', on_swap, Bool.or_comm]
theorem wnd_move (p m : Pt) (l : List (Pt × Pt)) : wnd (mvP m p) (l.map fun x => (mvP m x.1, mvP m x.2)) = wnd p l := by
  unfold wnd; rw [List.map_map]; congr 1; apply List.map_congr_left; intro x _; exact cross_move _ _ _ _
theorem hit_move (p m : Pt) (l : List (Pt × Pt)) : hit (mvP m p) (l.map fun x => (mvP m x.1, mvP m x.2)) = hit p l := by
  induction l with
  | nil => rfl
  | cons x r ih =>
    have e : hit p (x :: r) = (onWay x.1 x.2 p || hit p r) := rfl
    rw [e, ← ih, ← on_move x.1 x.2 p m]
    rfl
theorem wind_eq (path : List Pt) (p : Pt) : winding path p = wnd p (ways path) := rfl
/-- In reverse order. -/
theorem ways_rev (a : Pt) (r : List Pt) (p : Pt) : wnd p (ways (a :: r).reverse) = -wnd p (ways (a :: r)) ∧ hit p (ways (a :: r).reverse) = hit p (ways (a :: r)) := by
  rw [ways_prs]
  cases hr : r.reverse with
  | nil =>
    have : r = [] := by simpa using hr
    subst this
    have e : ways ([a] : List Pt).reverse = prs a ([a]) := ways_prs a []
    rw [e]
    have h0 : cross a a p = 0 := by have := cross_swap a a p; omega
    show wnd p [(a, a)] = -wnd p [(a, a)] ∧ hit p [(a, a)] = hit p [(a, a)]
    refine ⟨?_, rfl⟩
    unfold wnd
    simp [h0]
  | cons b s =>
    have hr' : r = (b :: s).reverse := by rw [← hr, List.reverse_reverse]
    rw [List.reverse_cons, hr, List.cons_append, ways_prs, List.append_assoc]
    show wnd p (prs b (s ++ a :: [b])) = _ ∧ hit p (prs b (s ++ a :: [b])) = _
    rw [prs_append]
    have hp : prs a (r ++ [a]) = prs a (r ++ [a]) := rfl
    have h1 : prs a (r ++ [a]) = prs a (b :: s).reverse ++ [(b, a)] := by
      rw [hr', List.reverse_cons, List.append_assoc]
      show prs a (s.reverse ++ b :: [a]) = _
      rw [prs_append]
      rfl
    have h2 : prs b (s ++ [a]) = ((prs a (s.reverse ++ [b])).reverse).map swp := by
      have := prs_rev a b s.reverse
      rwa [List.reverse_reverse] at this
    rw [h1, h2, wnd_append, hit_append, wnd_append, hit_append, wnd_rev, hit_rev, List.reverse_cons]
    have e1' : wnd p (prs a [b]) = cross a b p := by unfold wnd prs; simp [prs]
    have e2' : wnd p [(b, a)] = cross b a p := by unfold wnd; simp
    have e3' : hit p (prs a [b]) = onWay a b p := by unfold hit; simp [prs]
    have e4' : hit p [(b, a)] = onWay b a p := by unfold hit; simp
    rw [e1', e2', e3', e4', cross_swap a b p, on_swap a b p]
    exact ⟨by omega, rfl⟩
/-- From its second position. -/
theorem ways_rot (a : Pt) (r : List Pt) (p : Pt) : wnd p (ways (r ++ [a])) = wnd p (ways (a :: r)) ∧ hit p (ways (r ++ [a])) = hit p (ways (a :: r)) := by
  cases r with
  | nil => exact ⟨rfl, rfl⟩
  | cons b s =>
    rw [List.cons_append, ways_prs, ways_prs, List.append_assoc]
    show wnd p (prs b (s ++ a :: [b])) = _ ∧ hit p (prs b (s ++ a :: [b])) = _
    have e : prs a (b :: s ++ [a]) = (a, b) :: prs b (s ++ [a]) := rfl
    rw [prs_append, e]
    have c : (a, b) :: prs b (s ++ [a]) = [(a, b)] ++ prs b (s ++ [a]) := rfl
    rw [c, wnd_append, hit_append, wnd_append, hit_append]
    have e2' : prs a [b] = [(a, b)] := rfl
    rw [e2']
    exact ⟨Int.add_comm _ _, Bool.or_comm _ _⟩
/-- Moved together with the post. -/
theorem ways_move (a : Pt) (r : List Pt) (p m : Pt) : wnd (mvP m p) (ways ((a :: r).map (mvP m))) = wnd p (ways (a :: r)) ∧ hit (mvP m p) (ways ((a :: r).map (mvP m))) = hit p (ways (a :: r)) := by
  rw [List.map_cons, ways_prs, ways_prs]
  have e : r.map (mvP m) ++ [mvP m a] = (r ++ [a]).map (mvP m) := by simp
  rw [e, prs_move, wnd_move, hit_move]
  exact ⟨rfl, rfl⟩
/-- One path, then a second one from its first position. -/
theorem ways_two (a : Pt) (r s : List Pt) (p : Pt) : wnd p (ways ((a :: r) ++ (a :: s))) = wnd p (ways (a :: r)) + wnd p (ways (a :: s)) ∧ hit p (ways ((a :: r) ++ (a :: s))) = (hit p (ways (a :: r)) || hit p (ways (a :: s))) := by
  rw [List.cons_append, ways_prs, ways_prs, ways_prs, List.append_assoc]
  show wnd p (prs a (r ++ a :: (s ++ [a]))) = _ ∧ hit p (prs a (r ++ a :: (s ++ [a]))) = _
  rw [prs_append, wnd_append, hit_append]
  exact ⟨rfl, rfl⟩
/-- Squares around a post: k positions, to the left (or, mirrored, to the right). -/
def sqAt (neg : Bool) (k : Nat) : Pt := match k % 4 with
  | 0 => (1, if neg then 1 else -1)
  | 1 => (1, if neg then -1 else 1)
  | 2 => (-1, if neg then -1 else 1)
  | _ => (-1, if neg then 1 else -1)
def sqs (neg : Bool) (n : Nat) : List Pt := (List.range n).map (sqAt neg)
theorem squares_one : ∀ neg : Bool, ∀ n ∈ [1, 2, 3], wnd (0, 0) (ways (sqs neg (4 * n))) = (if neg then -(n : Int) else (n : Int)) ∧ hit (0, 0) (ways (sqs neg (4 * n))) = false := by decide
end Go.Proofs.Ytghglgaimhfedaa
