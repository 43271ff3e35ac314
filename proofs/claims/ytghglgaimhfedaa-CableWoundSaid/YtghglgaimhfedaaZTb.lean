/-
  Mathematics of the statement TopCableUnwound: there and back, from whichever position.
-/
import Derived.Test.YtghglgaimhfedaaZTa
import Derived.Test.YtghglgaimhfedaaQH
import Derived.Test.YtghglgaimhfedaaQO
namespace Go.Proofs.Ytghglgaimhfedaa

theorem wnd_cons (p : Pt) (x : Pt × Pt) (l : List (Pt × Pt)) : wnd p (x :: l) = cross x.1 x.2 p + wnd p l := by unfold wnd; rw [List.map_cons, List.sum_cons]
theorem hit_cons (p : Pt) (x : Pt × Pt) (l : List (Pt × Pt)) : hit p (x :: l) = (onWay x.1 x.2 p || hit p l) := rfl
theorem on_self {c p : Pt} (h : onWay c c p = true) : p = c := by
  unfold onWay btw at h
  simp only [Bool.and_eq_true, decide_eq_true_eq] at h
  exact Prod.ext (by omega) (by omega)
theorem on_end1 (c y : Pt) : onWay c y c = true := by
  unfold onWay btw side
  simp only [Bool.and_eq_true, decide_eq_true_eq]
  exact ⟨⟨by simp, by omega, by omega⟩, by omega, by omega⟩
theorem on_end2 (c y : Pt) : onWay y c c = true := by rw [on_swap]; exact on_end1 c y
theorem cross_self (a p : Pt) : cross a a p = 0 := by have := cross_swap a a p; omega
theorem on_none1 {c y p : Pt} (h : onWay c y p = false) : onWay c c p = false := by
  cases hc : onWay c c p with
  | false => rfl
  | true => rw [on_self hc, on_end1] at h; cases h
theorem on_none2 {c y p : Pt} (h : onWay y c p = false) : onWay c c p = false := by
  cases hc : onWay c c p with
  | false => rfl
  | true => rw [on_self hc, on_end2] at h; cases h
theorem there_ok (a : Pt) (r : List Pt) (p : Pt) (h : hit p (ways (a :: r)) = false) : wnd p (ways ((a :: r) ++ (a :: r).reverse)) = 0 ∧ hit p (ways ((a :: r) ++ (a :: r).reverse)) = false := by
  rcases List.eq_nil_or_concat r with rfl | ⟨s, c, rfl⟩
  · have e : ways ([a] ++ [a].reverse) = [(a, a), (a, a)] := ways_prs a [a]
    have e0 : ways [a] = [(a, a)] := ways_prs a []
    rw [e0] at h
    rw [e, wnd_cons, wnd_cons, hit_cons, hit_cons, cross_self]
    rw [hit_cons] at h
    refine ⟨rfl, ?_⟩
    simp only [Bool.or_eq_false_iff] at h ⊢
    exact ⟨h.1, h.1, h.2⟩
  · rw [List.concat_eq_append] at h ⊢
    have e0 : ways (a :: (s ++ [c])) = prs a (s ++ [c]) ++ [(c, a)] := by
      rw [ways_prs, List.append_assoc]
      show prs a (s ++ c :: [a]) = _
      rw [prs_append]; rfl
    have e : ways ((a :: (s ++ [c])) ++ (a :: (s ++ [c])).reverse) = prs a (s ++ [c]) ++ ((c, c) :: (prs c (s.reverse ++ [a]) ++ [(a, a)])) := by
      rw [List.cons_append, ways_prs]
      have : s ++ [c] ++ (a :: (s ++ [c])).reverse ++ [a] = s ++ c :: (c :: (s.reverse ++ a :: [a])) := by simp
      rw [this, prs_append]
      congr 1
      show (c, c) :: prs c (s.reverse ++ a :: [a]) = _
      rw [prs_append]; rfl
    rw [e0, hit_append, hit_cons] at h
    simp only [Bool.or_eq_false_iff] at h
    rw [e, wnd_append, hit_append, wnd_cons, hit_cons, wnd_append, hit_append, prs_rev, wnd_rev, hit_rev, wnd_cons, hit_cons, cross_self, cross_self, on_none1 h.2.1, on_none2 h.2.1, h.1]
    refine ⟨?_, rfl⟩
    have : wnd p [] = 0 := rfl
    omega
theorem back_ok (a : Pt) (r : List Pt) (p : Pt) (h : hit p (ways (a :: r)) = false) : wnd p (ways ((a :: r) ++ [a] ++ (a :: r).reverse)) = 0 ∧ hit p (ways ((a :: r) ++ [a] ++ (a :: r).reverse)) = false := by
  have e : ways ((a :: r) ++ [a] ++ (a :: r).reverse) = prs a (r ++ [a]) ++ (prs a (r.reverse ++ [a]) ++ [(a, a)]) := by
    rw [List.append_assoc, List.cons_append, ways_prs]
    have : r ++ ([a] ++ (a :: r).reverse) ++ [a] = r ++ a :: (r.reverse ++ a :: [a]) := by simp
    rw [this, prs_append a a r (r.reverse ++ a :: [a]), prs_append a a r.reverse [a]]; rfl
  have h0 : onWay a a p = false := by
    rw [ways_prs] at h
    cases r with
    | nil => exact (Bool.or_eq_false_iff.1 h).1
    | cons b s => exact on_none1 (Bool.or_eq_false_iff.1 h).1
  rw [ways_prs] at h
  rw [e, wnd_append, hit_append, wnd_append, hit_append, prs_rev, wnd_rev, hit_rev, wnd_cons, hit_cons, cross_self, h, h0]
  refine ⟨?_, rfl⟩
  have : wnd p [] = 0 := rfl
  omega
theorem rot_ok (path : List Pt) (p : Pt) : ∀ k, k ≤ path.length → wnd p (ways (path.drop k ++ path.take k)) = wnd p (ways path) ∧ hit p (ways (path.drop k ++ path.take k)) = hit p (ways path)
  | 0, _ => by simp
  | k + 1, h => by
    have ih := rot_ok path p k (by omega)
    have hk : k < path.length := by omega
    rw [List.drop_eq_getElem_cons hk, List.cons_append] at ih
    have := ways_rot path[k] (path.drop (k + 1) ++ path.take k) p
    rw [List.append_assoc, ← List.take_succ_eq_append_getElem hk] at this
    exact ⟨this.1.trans ih.1, this.2.trans ih.2⟩
def laterP (path : List Pt) (k : Nat) : List Pt := (List.range path.length).map fun i => path.getD ((i + k) % path.length) (0, 0)
theorem laterP_len (path : List Pt) (k : Nat) : (laterP path k).length = path.length := by simp [laterP]
theorem laterP_eq (path : List Pt) (k : Nat) (h : k < path.length) : laterP path k = path.drop k ++ path.take k := by
  apply List.ext_getElem
  · simp [laterP]; omega
  · intro i h1 h2
    have hi : i < path.length := by simpa [laterP] using h1
    simp only [laterP, List.getElem_map, List.getElem_range]
    have hm : (i + k) % path.length < path.length := Nat.mod_lt _ (by omega)
    rw [getD_eq _ _ _ hm]
    by_cases hc : i < path.length - k
    · rw [List.getElem_append_left (by simp; omega), List.getElem_drop]
      congr 1
      rw [Nat.mod_eq_of_lt (by omega)]; omega
    · rw [List.getElem_append_right (by simp; omega), List.getElem_take]
      congr 1
      simp only [List.length_drop]
      rw [Nat.mod_eq_sub_mod (by omega), Nat.mod_eq_of_lt (by omega)]; omega
/-! ### errors, and what is wound -/
theorem pathErr_of {xs : List Pt} (h0 : 0 < xs.length) (h1 : xs.length ≤ 30) (h : ∀ p ∈ xs, placeOk p = true) : pathErr xs = 0 := by
  unfold pathErr
  rw [if_neg (by omega), if_neg (by omega)]
  refine (fb_ok placeErr xs 0).2 fun p hp => ?_
  unfold placeErr; rw [if_pos (h p hp)]
theorem postErr_iff (xs : List Pt) (p : Pt) : postErr xs p = 0 ↔ placeOk p = true ∧ hit p (ways xs) = false := by
  unfold postErr
  by_cases h1 : placeOk p = true
  · rw [if_pos h1]
    by_cases h2 : ((ways xs).any fun w => onWay w.1 w.2 p) = true
    · rw [if_pos h2]
      have : hit p (ways xs) = true := h2
      simp [this]
    · rw [if_neg h2]
      have : hit p (ways xs) = false := by
        cases hc : hit p (ways xs) with
        | false => rfl
        | true => exact absurd hc h2
      simp [this, h1]
  · rw [if_neg h1]; simp [h1]
theorem postsErr_iff (xs posts : List Pt) (hl : posts.length ≤ 10) : postsErr xs posts = 0 ↔ ∀ p ∈ posts, placeOk p = true ∧ hit p (ways xs) = false := by
  unfold postsErr
  rw [if_neg (by omega), fb_ok]
  constructor
  · exact fun h p hp => (postErr_iff xs p).1 (h p hp)
  · exact fun h p hp => (postErr_iff xs p).2 (h p hp)
theorem wound_none (xs : List Pt) : ∀ (posts : List Pt) (i : Nat), (∀ p ∈ posts, wnd p (ways xs) = 0) → wound xs posts i = []
  | [], _, _ => rfl
  | p :: r, i, h => by
    have h1 : winding xs p = 0 := h p (by simp)
    rw [wound, if_pos h1]
    exact wound_none xs r (i + 1) fun q hq => h q (by simp [hq])
theorem wound_same (xs ys : List Pt) : ∀ (posts : List Pt) (i : Nat), (∀ p ∈ posts, wnd p (ways xs) = wnd p (ways ys)) → wound xs posts i = wound ys posts i
  | [], _, _ => rfl
  | p :: r, i, h => by
    have h1 : winding xs p = winding ys p := h p (by simp)
    rw [wound, wound, h1, wound_same xs ys r (i + 1) fun q hq => h q (by simp [hq])]
theorem wound_ge (xs : List Pt) : ∀ (posts : List Pt) (i : Nat) (n : Int), n ∈ wound xs posts i → (i : Int) ≤ n
  | [], _, n, h => by simp [wound] at h
  | p :: r, i, n, h => by
    rw [wound] at h
    by_cases h1 : winding xs p = 0
    · rw [if_pos h1] at h
      have := wound_ge xs r (i + 1) n h; omega
    · rw [if_neg h1, List.mem_cons] at h
      rcases h with rfl | h
      · omega
      · have := wound_ge xs r (i + 1) n h; omega
theorem wound_has (xs : List Pt) : ∀ (posts : List Pt) (i k : Nat) (h : k < posts.length), hasL (wound xs posts i) ((i + k : Nat) : Int) = decide (winding xs posts[k] ≠ 0)
  | [], _, k, h => by simp at h
  | p :: r, i, 0, _ => by
    rw [wound]
    by_cases h1 : winding xs p = 0
    · rw [if_pos h1]
      simp only [List.getElem_cons_zero, h1, ne_eq, not_true_eq_false, decide_false]
      cases hc : hasL (wound xs r (i + 1)) ((i + 0 : Nat) : Int) with
      | false => rfl
      | true =>
        unfold hasL at hc
        obtain ⟨x, hx, he⟩ := List.any_eq_true.1 hc
        have := wound_ge xs r (i + 1) x hx
        have he' : x = ((i + 0 : Nat) : Int) := by simpa using he
        omega
    · rw [if_neg h1]
      have e : hasL ((i : Int) :: wound xs r (i + 1)) ((i + 0 : Nat) : Int) = true := by unfold hasL; simp
      rw [e]
      simp [h1]
  | p :: r, i, k + 1, h => by
    have ih := wound_has xs r (i + 1) k (by simpa using h)
    rw [show i + 1 + k = i + (k + 1) by omega] at ih
    rw [wound]
    by_cases h1 : winding xs p = 0
    · rw [if_pos h1, ih]; rfl
    · rw [if_neg h1]
      have e : hasL ((i : Int) :: wound xs r (i + 1)) ((i + (k + 1) : Nat) : Int) = hasL (wound xs r (i + 1)) ((i + (k + 1) : Nat) : Int) := by
        unfold hasL
        rw [List.any_cons]
        have : decide ((i : Int) = ((i + (k + 1) : Nat) : Int)) = false := decide_eq_false (by omega)
        rw [this, Bool.false_or]
      rw [e, ih]; rfl
theorem wound_len (xs : List Pt) : ∀ (posts : List Pt) (i : Nat), (wound xs posts i).length ≤ posts.length
  | [], _ => by simp [wound]
  | p :: r, i => by
    have := wound_len xs r (i + 1)
    rw [wound]
    split <;> simp <;> omega
/-- All that the statement asks. -/
theorem unwound {path posts : List Pt} (hp : pathErr path = 0) (hn : path.length ≤ 14) (hl : posts.length ≤ 10) (hq : postsErr path posts = 0) :
    woundAround path posts = (wound path posts 0, 0) ∧ woundAround (path ++ path.reverse) posts = ([], 0) ∧ (∀ a, path[0]? = some a → woundAround (path ++ [a] ++ path.reverse) posts = ([], 0)) ∧ (∀ k, k < path.length → woundAround (laterP path k) posts = (wound path posts 0, 0)) ∧
      ∀ k (h : k < posts.length), windingOf path posts[k] = (winding path posts[k], 0) := by
  obtain ⟨h0, h1, h2⟩ := pathErr_ok hp
  have hq' := (postsErr_iff path posts hl).1 hq
  have W : ∀ xs, pathErr xs = 0 → (∀ p ∈ posts, hit p (ways xs) = false) → woundAround xs posts = (wound xs posts 0, 0) := fun xs h3 h4 => by
    unfold woundAround
    rw [if_pos h3, if_pos ((postsErr_iff xs posts hl).2 fun p hp => ⟨(hq' p hp).1, h4 p hp⟩)]
  obtain ⟨a, r, rfl⟩ : ∃ a r, path = a :: r := by cases path with | nil => simp at h0 | cons a r => exact ⟨a, r, rfl⟩
  refine ⟨W _ hp fun p hp => (hq' p hp).2, ?_, ?_, ?_, ?_⟩
  · have ht := fun p hp => there_ok a r p (hq' p hp).2
    rw [W _ (pathErr_of (by simp) (by simp at hn ⊢; omega) fun p hp => ?_) fun p hp => (ht p hp).2, wound_none _ _ _ fun p hp => (ht p hp).1]
    simp only [List.mem_append, List.mem_reverse, or_self] at hp
    exact h2 p hp
  · intro b hb
    have hb' : a = b := by simpa using hb
    subst hb'
    have ht := fun p hp => back_ok a r p (hq' p hp).2
    rw [W _ (pathErr_of (by simp) (by simp at hn ⊢; omega) fun p hp => ?_) fun p hp => (ht p hp).2, wound_none _ _ _ fun p hp => (ht p hp).1]
    simp only [List.mem_append, List.mem_reverse, List.mem_singleton] at hp
    rcases hp with (hp | rfl) | hp
    · exact h2 p hp
    · exact h2 p (by simp)
    · exact h2 p hp
  · intro k hk
    have ht := fun p => rot_ok (a :: r) p k (by omega)
    rw [← laterP_eq _ k hk] at ht
    rw [W _ (pathErr_of (by rw [laterP_len]; omega) (by rw [laterP_len]; omega) fun p hp => ?_) fun p hp => (ht p).2.trans (hq' p hp).2, wound_same _ (a :: r) _ _ fun p _ => (ht p).1]
    rw [laterP_eq _ k hk] at hp
    simp only [List.mem_append] at hp
    rcases hp with hp | hp
    · exact h2 p (List.mem_of_mem_drop hp)
    · exact h2 p (List.mem_of_mem_take hp)
  · intro k hk
    unfold windingOf
    rw [if_pos hp, if_pos ((postErr_iff _ _).2 (hq' _ (List.getElem_mem hk)))]
end Go.Proofs.Ytghglgaimhfedaa
