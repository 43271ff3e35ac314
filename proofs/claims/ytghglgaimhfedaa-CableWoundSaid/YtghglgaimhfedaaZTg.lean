/-
  Mathematics of the statement CableWound, put together: what each call answers.
-/
import Derived.Test.YtghglgaimhfedaaZTb
namespace Go.Proofs.Ytghglgaimhfedaa

def smB (p : Pt) : Bool := inB p.1 (-4000) 4000 && inB p.2 (-4000) 4000
theorem smB_iff {p : Pt} : smB p = true ↔ (-4000 ≤ p.1 ∧ p.1 ≤ 4000) ∧ -4000 ≤ p.2 ∧ p.2 ≤ 4000 := by
  unfold smB inB
  rw [Bool.and_eq_true, decide_eq_true_eq, decide_eq_true_eq]
theorem placeOk_of {p : Pt} (h1 : -10000 ≤ p.1 ∧ p.1 ≤ 10000) (h2 : -10000 ≤ p.2 ∧ p.2 ≤ 10000) : placeOk p = true := by
  unfold placeOk inR inB
  rw [Bool.and_eq_true, decide_eq_true_eq, decide_eq_true_eq]
  exact ⟨h1, h2⟩
theorem smB_ok {p : Pt} (h : smB p = true) : placeOk p = true := by
  have := smB_iff.1 h
  exact placeOk_of (by omega) (by omega)
theorem mvP_ok {p m : Pt} (h : smB p = true) (k : smB m = true) : placeOk (mvP m p) = true := by
  have := smB_iff.1 h
  have := smB_iff.1 k
  refine placeOk_of ?_ ?_ <;> unfold mvP <;> simp only <;> omega
theorem windingOf_of {xs : List Pt} {p : Pt} (h0 : pathErr xs = 0) (hp : placeOk p = true) (hh : hit p (ways xs) = false) : windingOf xs p = (wnd p (ways xs), 0) := by
  unfold windingOf
  rw [if_pos h0, if_pos ((postErr_iff xs p).2 ⟨hp, hh⟩)]
  rfl
theorem windingOf_hit {xs : List Pt} {p : Pt} (h0 : pathErr xs = 0) (hp : placeOk p = true) (hh : hit p (ways xs) = true) : windingOf xs p = (0, 13) := by
  have h : postErr xs p = 13 := by
    unfold postErr
    rw [if_pos hp]
    have : ((ways xs).any fun w => onWay w.1 w.2 p) = true := hh
    rw [if_pos this]
  unfold windingOf
  rw [if_pos h0, h]
  rfl
/-- Of paths and posts that are small the error is 0 or that of a post on the path. -/
theorem windingOf_two {xs : List Pt} {p : Pt} (h0 : 0 < xs.length) (h1 : xs.length ≤ 30) (h : ∀ q ∈ xs, smB q = true) (hp : smB p = true) : (∃ n, windingOf xs p = (n, 0)) ∨ windingOf xs p = (0, 13) := by
  have he : pathErr xs = 0 := pathErr_of h0 h1 fun q hq => smB_ok (h q hq)
  cases hh : hit p (ways xs) with
  | false => exact .inl ⟨_, windingOf_of he (smB_ok hp) hh⟩
  | true => exact .inr (windingOf_hit he (smB_ok hp) hh)
theorem windingOf_ok {xs : List Pt} {p : Pt} {n : Int} (h : windingOf xs p = (n, 0)) : pathErr xs = 0 ∧ placeOk p = true ∧ hit p (ways xs) = false ∧ wnd p (ways xs) = n := by
  unfold windingOf at h
  by_cases h1 : pathErr xs = 0
  · rw [if_pos h1] at h
    by_cases h2 : postErr xs p = 0
    · rw [if_pos h2] at h
      have := (postErr_iff xs p).1 h2
      injection h with ha hb
      exact ⟨h1, this.1, this.2, ha⟩
    · rw [if_neg h2] at h
      injection h with ha hb
      exact absurd hb h2
  · rw [if_neg h1] at h
    injection h with ha hb
    exact absurd hb h1
theorem sqs_mem {neg : Bool} {n : Nat} {q : Pt} (h : q ∈ sqs neg n) : -1 ≤ q.1 ∧ q.1 ≤ 1 ∧ -1 ≤ q.2 ∧ q.2 ≤ 1 := by
  unfold sqs at h
  obtain ⟨k, _, rfl⟩ := List.mem_map.1 h
  unfold sqAt
  rcases Nat.lt_or_ge (k % 4) 1 with h0 | h0
  · have : k % 4 = 0 := by omega
    rw [this]; cases neg <;> decide
  · rcases Nat.lt_or_ge (k % 4) 2 with h1 | h1
    · have : k % 4 = 1 := by omega
      rw [this]; cases neg <;> decide
    · rcases Nat.lt_or_ge (k % 4) 3 with h2 | h2
      · have : k % 4 = 2 := by omega
        rw [this]; cases neg <;> decide
      · have : k % 4 = 3 := by omega
        rw [this]; cases neg <;> decide
/-- The squares around a post, as the statement builds them. -/
def squaresP (p : Pt) (t : Int) : List Pt := (sqs (decide (t < 0)) (4 * t.natAbs)).map (mvP p)
theorem squaresP_ok {p : Pt} {t : Int} (hp : smB p = true) (h1 : -3 ≤ t) (h2 : t ≤ 3) (h3 : t ≠ 0) : windingOf (squaresP p t) p = (t, 0) := by
  have hn : t.natAbs ∈ [1, 2, 3] := by
    rcases (show t.natAbs = 1 ∨ t.natAbs = 2 ∨ t.natAbs = 3 by omega) with h | h | h <;> rw [h] <;> decide
  have hs := squares_one (decide (t < 0)) t.natAbs hn
  obtain ⟨a, r, hr⟩ : ∃ a r, sqs (decide (t < 0)) (4 * t.natAbs) = a :: r := by
    cases hc : sqs (decide (t < 0)) (4 * t.natAbs) with
    | nil =>
      have : (sqs (decide (t < 0)) (4 * t.natAbs)).length = 4 * t.natAbs := by simp [sqs]
      rw [hc] at this
      simp at this
      omega
    | cons a r => exact ⟨a, r, rfl⟩
  have hm := ways_move a r (0, 0) p
  have e0 : mvP p (0, 0) = p := by unfold mvP; ext <;> simp
  rw [e0, ← hr] at hm
  have hlen : (squaresP p t).length = 4 * t.natAbs := by simp [squaresP, sqs]
  have he : pathErr (squaresP p t) = 0 := pathErr_of (by omega) (by omega) fun q hq => by
    unfold squaresP at hq
    obtain ⟨x, hx, rfl⟩ := List.mem_map.1 hq
    have := sqs_mem hx
    have := smB_iff.1 hp
    refine placeOk_of ?_ ?_ <;> unfold mvP <;> simp only <;> omega
  have hw : wnd p (ways (squaresP p t)) = t := by
    unfold squaresP
    rw [hm.1, hs.1]
    by_cases hc : t < 0
    · simp only [hc, decide_true, if_true]; omega
    · simp only [hc, decide_false]
      have : ((if false = true then -(t.natAbs : Int) else (t.natAbs : Int))) = (t.natAbs : Int) := rfl
      rw [this]; omega
  have hh : hit p (ways (squaresP p t)) = false := by
    unfold squaresP
    rw [hm.2, hs.2]
  rw [windingOf_of he (smB_ok hp) hh, hw]
/-- All that the statement asks of a path and a second one. -/
theorem wound_all {path more : List Pt} {a p m : Pt} {n k : Int} (h0 : path[0]? = some a) (h1 : path.length ≤ 10) (h2 : more.length ≤ 10) (hs : ∀ q ∈ path, smB q = true) (hm : ∀ q ∈ more, smB q = true) (hp : smB p = true) (hb : smB m = true)
    (hn : windingOf path p = (n, 0)) (hk : windingOf (a :: more) p = (k, 0)) :
    windingOf path.reverse p = (-n, 0) ∧ windingOf (laterP path 1) p = (n, 0) ∧ windingOf (path.map (mvP m)) (mvP m p) = (n, 0) ∧ windingOf (path ++ (a :: more)) p = (n + k, 0) := by
  obtain ⟨r, rfl⟩ : ∃ r, path = a :: r := by
    cases path with
    | nil => simp at h0
    | cons b r => simp at h0; subst h0; exact ⟨r, rfl⟩
  obtain ⟨n1, n2, n3, n4⟩ := windingOf_ok hn
  obtain ⟨k1, k2, k3, k4⟩ := windingOf_ok hk
  simp only [List.length_cons] at h1
  refine ⟨?_, ?_, ?_, ?_⟩
  · obtain ⟨x, y⟩ := ways_rev a r p
    rw [windingOf_of (pathErr_of (by simp) (by simp; omega) fun q hq => smB_ok (hs q (List.mem_reverse.1 hq))) n2 (y.trans n3), x, n4]
  · have e : laterP (a :: r) 1 = r ++ [a] := by
      by_cases hl : 1 < (a :: r).length
      · rw [laterP_eq _ _ hl]; simp
      · have : r = [] := by cases r with | nil => rfl | cons _ _ => simp at hl
        subst this; simp [laterP, List.range_succ]
    obtain ⟨x, y⟩ := ways_rot a r p
    rw [e, windingOf_of (pathErr_of (by simp) (by simp; omega) fun q hq => smB_ok (hs q (by
      rcases List.mem_append.1 hq with h | h
      · exact List.mem_cons_of_mem _ h
      · rw [List.mem_singleton] at h; rw [h]; exact List.mem_cons_self))) n2 (y.trans n3), x, n4]
  · obtain ⟨x, y⟩ := ways_move a r p m
    rw [windingOf_of (pathErr_of (by simp) (by simp; omega) fun q hq => by
      obtain ⟨z, hz, rfl⟩ := List.mem_map.1 hq
      exact mvP_ok (hs z hz) hb) (mvP_ok hp hb) (y.trans n3), x, n4]
  · obtain ⟨x, y⟩ := ways_two a r more p
    rw [windingOf_of (pathErr_of (by simp) (by simp; omega) fun q hq => by
      rcases List.mem_append.1 hq with hq | hq
      · exact smB_ok (hs q hq)
      · rcases List.mem_cons.1 hq with rfl | hq
        · exact smB_ok (hs _ (by simp))
        · exact smB_ok (hm q hq)) n2 (by rw [y, n3, k3]; rfl), x, n4, k4]
theorem rev_take (path : List Pt) (k : Nat) (h : k < path.length) : path.reverse.take (k + 1) = path.reverse.take k ++ [path[path.length - 1 - k]'(by omega)] := by
  have h1 : k < path.reverse.length := by simpa using h
  rw [List.take_succ_eq_append_getElem h1, List.getElem_reverse]
theorem later_take (path : List Pt) (k : Nat) (h : k < path.length) : (laterP path 1).take (k + 1) = (laterP path 1).take k ++ [path[(k + 1) % path.length]'(Nat.mod_lt _ (by omega))] := by
  rw [List.take_succ_eq_append_getElem (by rw [laterP_len]; exact h)]
  simp only [laterP, List.getElem_map, List.getElem_range]
  rw [getD_eq _ _ _ (Nat.mod_lt _ (by omega))]
theorem move_take (path : List Pt) (m : Pt) (k : Nat) (h : k < path.length) : (path.map (mvP m)).take (k + 1) = (path.map (mvP m)).take k ++ [mvP m path[k]] := by
  rw [List.take_succ_eq_append_getElem (by simpa using h), List.getElem_map]
theorem squares_take (p : Pt) (t : Int) (k : Nat) (h : k < 4 * t.natAbs) : (squaresP p t).take (k + 1) = (squaresP p t).take k ++ [mvP p (sqAt (decide (t < 0)) k)] := by
  have hl : (squaresP p t).length = 4 * t.natAbs := by simp [squaresP, sqs]
  rw [List.take_succ_eq_append_getElem (by omega)]
  simp [squaresP, sqs]
theorem squares_len (p : Pt) (t : Int) : (squaresP p t).length = 4 * t.natAbs := by simp [squaresP, sqs]
theorem wnd_bd (p : Pt) (l : List (Pt × Pt)) : -(l.length : Int) ≤ wnd p l ∧ wnd p l ≤ l.length := by
  induction l with
  | nil => exact ⟨Int.le_refl _, Int.le_refl _⟩
  | cons x r ih =>
    have := cross_bd x.1 x.2 p
    rw [wnd_cons]
    simp only [List.length_cons]
    omega
theorem winding_bd {xs : List Pt} {p : Pt} {n : Int} (h : windingOf xs p = (n, 0)) : -30 ≤ n ∧ n ≤ 30 := by
  obtain ⟨h1, _, _, h4⟩ := windingOf_ok h
  have := wnd_bd p (ways xs)
  rw [ways_len, h4] at this
  have := (pathErr_ok h1).2.1
  omega
end Go.Proofs.Ytghglgaimhfedaa
