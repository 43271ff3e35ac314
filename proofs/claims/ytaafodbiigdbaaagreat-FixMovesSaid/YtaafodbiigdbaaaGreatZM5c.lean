/-
  'FixMoves': the lifted law is true.
-/
import Derived.Test.YtaafodbiigdbaaaGreatZM5d
import Derived.Test.YtaafodbiigdbaaaGreatZM5n
set_option linter.all false
namespace Go.Proofs.YtaafodbiigdbaaaGreat
open Go Go.RowKit
set_option maxRecDepth 100000
theorem back_wr {x : Int} (h : -100 ≤ x ∧ x ≤ 100) : IntKind.wrap .i64 (0 - x) = -x := by
  rw [wrapB (by omega) (by omega)]; omega
theorem movV_zero {w0 w1 w2 w3 w4 w5 : Int} {l : List Bn} {a b c d e f T p q r s t u : Int} (h : movV w0 w1 w2 w3 w4 w5 l a b c d e f T p q r s t u = 0) : boxV w0 w1 w2 w3 w4 w5 l a b c d e f = 0 ∧ movE T p q r s t u = 0 := by
  unfold movV firstE at h
  by_cases h1 : boxV w0 w1 w2 w3 w4 w5 l a b c d e f = 0
  · rw [if_pos h1] at h
    unfold firstE at h
    by_cases h2 : movE T p q r s t u = 0
    · exact ⟨h1, h2⟩
    · rw [if_neg h2] at h; exact absurd h h2
  · rw [if_neg h1] at h; exact absurd h h1
theorem m_Back {fu : Nat} (hf : 1000 ≤ fu) (w0 w1 w2 w3 w4 w5 : Int) (l : List Bn) (hl : l.length < 50) (a b c d e f T : Int) {p q r s t u : Int} (hp : i64 p) (hq : i64 q) (hr : i64 r) (hs : i64 s) (ht : i64 t) (hu : i64 u) : x_CarriedBack fu w0 w1 w2 w3 w4 w5 l a b c d e f T p q r s t u = some (if movV w0 w1 w2 w3 w4 w5 l a b c d e f T p q r s t u = 0 then resC (cmB (fwd a b c d e f T (-q) (-p) (-s) (-r) (-u) (-t)) w0 w1 w2 w3 w4 w5) else (0, 0, 0, 0, 0, 0, movV w0 w1 w2 w3 w4 w5 l a b c d e f T p q r s t u)) := by
  unfold x_CarriedBack
  rw [m_rev (by omega), Option.bind_some]
  simp only
  have eR : movV w0 w1 w2 w3 w4 w5 l a b c d e f T (IntKind.wrap .i64 (0 - q)) (IntKind.wrap .i64 (0 - p)) (IntKind.wrap .i64 (0 - s)) (IntKind.wrap .i64 (0 - r)) (IntKind.wrap .i64 (0 - u)) (IntKind.wrap .i64 (0 - t)) = movV w0 w1 w2 w3 w4 w5 l a b c d e f T p q r s t u := by
    unfold movV
    rw [movE_rev hp hq hr hs ht hu]
  rw [m_Carried hf _ _ _ _ _ _ _ hl, eR, Option.bind_some]
  by_cases h : movV w0 w1 w2 w3 w4 w5 l a b c d e f T p q r s t u = 0
  · obtain ⟨k1, k2, k3, k4⟩ := movE_zero (movV_zero h).2
    rw [if_pos h, if_pos h, back_wr (x := p) (by omega), back_wr (x := q) (by omega), back_wr (x := r) (by omega), back_wr (x := s) (by omega), back_wr (x := t) (by omega), back_wr (x := u) (by omega)]
  · rw [if_neg h, if_neg h]
def idxE (k n : Int) : Int := if k < 0 ∨ n ≤ k then 6 else 0
theorem m_index (k n : Int) : u_IndexError k n = some (idxE k n) := by
  unfold u_IndexError idxE
  by_cases h1 : k < 0
  · rw [if_pos h1, if_pos (.inl h1)]
  · rw [if_neg h1]
    by_cases h2 : n ≤ k
    · rw [if_pos h2, if_pos (.inr h2)]
    · rw [if_neg h2, if_neg (by omega)]
def sqE (w0 w1 w2 w3 w4 w5 : Int) (l : List Bn) (k a b c d e f : Int) : Int := firstE [(netV w0 w1 w2 w3 w4 w5 l).2, idxE k (l.length : Int), boxV w0 w1 w2 w3 w4 w5 l a b c d e f]
theorem bn_in : ∀ (l : List Bn) (pre : List Bn), (runB pre l).2 = 0 → ∀ x ∈ l, (-10000 ≤ x.2.1 ∧ x.2.1 ≤ 10000) ∧ (-10000 ≤ x.2.2.1 ∧ x.2.2.1 ≤ 10000) ∧ (-10000 ≤ x.2.2.2 ∧ x.2.2.2 ≤ 10000)
  | [], _, _, x, hx => by cases hx
  | y :: r, pre, h, x, hx => by
    unfold runB at h
    by_cases c : bnE (pre.map (·.1)) y = 0
    · rw [if_pos c] at h
      rcases List.mem_cons.1 hx with rfl | hx
      · unfold bnE at c
        cases h1 : nm x.1 with
        | false => simp [h1] at c
        | true =>
          by_cases h2 : x.1 ∈ pre.map (·.1)
          · rw [h1, if_pos rfl, if_pos h2] at c; omega
          · rw [h1, if_pos rfl, if_neg h2] at c
            cases h3 : okS 10000 [x.2.1, x.2.2.1, x.2.2.2] with
            | false => rw [h3] at c; simp at c
            | true =>
              have e1 : okS 10000 [x.2.1, x.2.2.1, x.2.2.2] = true ↔ ((-10000 ≤ x.2.1 ∧ x.2.1 ≤ 10000) ∧ (-10000 ≤ x.2.2.1 ∧ x.2.2.1 ≤ 10000) ∧ (-10000 ≤ x.2.2.2 ∧ x.2.2.2 ≤ 10000)) := by simp [okS]
              exact e1.1 h3
      · exact bn_in r _ h x hx
    · rw [if_neg c] at h; exact absurd h c
theorem net_in {w0 w1 w2 w3 w4 w5 : Int} {l : List Bn} (h : (netV w0 w1 w2 w3 w4 w5 l).2 = 0) : ∀ x ∈ l, (-10000 ≤ x.2.1 ∧ x.2.1 ≤ 10000) ∧ (-10000 ≤ x.2.2.1 ∧ x.2.2.1 ≤ 10000) ∧ (-10000 ≤ x.2.2.2 ∧ x.2.2.2 ≤ 10000) := by
  unfold netV at h
  by_cases h1 : worE w0 w1 w2 w3 w4 w5 = 0
  · rw [if_pos h1] at h
    by_cases h2 : (6 : Int) < (l.length : Int)
    · rw [if_pos h2] at h; simp at h
    · rw [if_neg h2] at h; exact bn_in l [] h
  · rw [if_neg h1] at h; exact absurd h h1
theorem m_SqIn {fu : Nat} (hf : 1000 ≤ fu) (w0 w1 w2 w3 w4 w5 : Int) (l : List Bn) (hl : l.length < 50) (k a b c d e f : Int) :
    x_SquaresIn fu w0 w1 w2 w3 w4 w5 l k a b c d e f = some (if sqE w0 w1 w2 w3 w4 w5 l k a b c d e f = 0 then (match l[0 + k.toNat]? with | some x => ((sqV x.2.1 x.2.2.1 x.2.2.2 a b c d e f).1, (sqV x.2.1 x.2.2.1 x.2.2.2 a b c d e f).2, 0) | none => (0, 0, 0)) else (0, 0, sqE w0 w1 w2 w3 w4 w5 l k a b c d e f)) := by
  unfold x_SquaresIn x_netError
  rw [n_net fu hf _ _ _ _ _ _ _ hl, Option.bind_some, Option.bind_some, m_index, Option.bind_some, n_box fu hf _ _ _ _ _ _ _ hl, Option.bind_some, x_first _ _ (by simp; omega) (by simp), Option.bind_some]
  show (if sqE w0 w1 w2 w3 w4 w5 l k a b c d e f = 0 then _ else _) = _
  by_cases h : sqE w0 w1 w2 w3 w4 w5 l k a b c d e f = 0
  · rw [if_pos h, if_pos h]
    have h1 : (netV w0 w1 w2 w3 w4 w5 l).2 = 0 ∧ idxE k (l.length : Int) = 0 ∧ boxV w0 w1 w2 w3 w4 w5 l a b c d e f = 0 := by
      unfold sqE firstE at h
      by_cases g1 : (netV w0 w1 w2 w3 w4 w5 l).2 = 0
      · rw [if_pos g1] at h
        unfold firstE at h
        by_cases g2 : idxE k (l.length : Int) = 0
        · rw [if_pos g2] at h
          unfold firstE at h
          by_cases g3 : boxV w0 w1 w2 w3 w4 w5 l a b c d e f = 0
          · exact ⟨g1, g2, g3⟩
          · rw [if_neg g3] at h; exact absurd h g3
        · rw [if_neg g2] at h; exact absurd h g2
      · rw [if_neg g1] at h; exact absurd h g1
    obtain ⟨h1, h2, h3⟩ := h1
    have hk : 0 ≤ k ∧ k < (l.length : Int) := by
      unfold idxE at h2
      by_cases c : k < 0 ∨ (l.length : Int) ≤ k
      · rw [if_pos c] at h2; omega
      · omega
    obtain ⟨_, b1, b2, b3⟩ := boxV_zero h3
    obtain ⟨x, hx⟩ : ∃ x, l[0 + k.toNat]? = some x := ⟨_, List.getElem?_eq_getElem (by omega)⟩
    have hx' := net_in h1 x (List.mem_of_getElem? hx)
    rw [if_pos hk.1, if_pos hk.2, hx, Option.bind_some]
    unfold x_placeOf x_boxOf
    simp only [Option.bind_some]
    rw [m_sq (by omega) ⟨hx'.1, by omega⟩ ⟨hx'.2.1, by omega⟩ ⟨hx'.2.2, by omega⟩, Option.bind_some]
  · rw [if_neg h, if_neg h]; rfl
theorem m_same (x : B6) : l5_same (resC x).1 (resC x).2.1 (resC x).2.2.1 (resC x).2.2.2.1 (resC x).2.2.2.2.1 (resC x).2.2.2.2.2.1 (resC x).2.2.2.2.2.2 x.1 x.2.1 x.2.2.1 x.2.2.2.1 x.2.2.2.2.1 x.2.2.2.2.2 = some true := by
  unfold l5_same resC
  rw [r_empty, Option.bind_some]
  unfold ordE
  by_cases h : x.2.1 < x.1 ∨ x.2.2.2.1 < x.2.2.1 ∨ x.2.2.2.2.2 < x.2.2.2.2.1
  · simp only [if_pos h, decide_eq_true h]
    simp
  · simp only [if_neg h, decide_eq_false h]
    simp
set_option maxHeartbeats 4000000 in
theorem l5_FixMoves_true (w0 w1 w2 w3 w4 w5 : Int) (l : List (Int × Int × Int × Int)) (a b c d e f T p q r s t u k : Int) (hz : ∀ x ∈ [T, p, q, r, s, t, u, k], -9223372036854775808 ≤ x ∧ x ≤ 9223372036854775807) : ∃ fu, l5_FixMoves fu w0 w1 w2 w3 w4 w5 l a b c d e f T p q r s t u k = some true := by
  refine ⟨1000, ?_⟩
  unfold l5_FixMoves l5_awake l5_few
  simp only [Option.bind_some, if_true]
  by_cases h1 : (l.length : Int) ≤ 8
  · have hl : l.length < 50 := by omega
    have hf : 1000 ≤ 1000 := Nat.le_refl _
    have zp : i64 p := hz p (by simp)
    have zq : i64 q := hz q (by simp)
    have zr : i64 r := hz r (by simp)
    have zs : i64 s := hz s (by simp)
    have zt : i64 t := hz t (by simp)
    have zu : i64 u := hz u (by simp)
    have c1 := m_Carried hf w0 w1 w2 w3 w4 w5 l hl a b c d e f T p q r s t u
    have c2 := m_Back hf w0 w1 w2 w3 w4 w5 l hl a b c d e f T zp zq zr zs zt zu
    have c3 := m_SqIn hf w0 w1 w2 w3 w4 w5 l hl k a b c d e f
    have c4 : r5_NetErr 1000 w0 w1 w2 w3 w4 w5 l = some (netV w0 w1 w2 w3 w4 w5 l).2 := by
      unfold r5_NetErr
      rw [r_net 1000 hf _ _ _ _ _ _ _ hl, Option.bind_some]
    have c5 := r_box 1000 hf w0 w1 w2 w3 w4 w5 l hl a b c d e f
    have c6 := r_merr hf T p q r s t u
    rw [if_pos h1, if_pos (by simp), Option.bind_some, if_pos rfl]
    unfold r5_CopyNet
    rw [if_pos (show (l.length : Int) < 65536 by omega)]
    simp only [Option.bind_some]
    rw [c1, Option.bind_some, c2, Option.bind_some, c3, Option.bind_some, c4, Option.bind_some]
    -- what is behind the squares, if the box is valid or not
    obtain ⟨N, hN⟩ : ∃ N, N = (netV w0 w1 w2 w3 w4 w5 l).2 := ⟨_, rfl⟩
    obtain ⟨X, hX⟩ : ∃ X, X = boxV w0 w1 w2 w3 w4 w5 l a b c d e f := ⟨_, rfl⟩
    obtain ⟨M, hM⟩ : ∃ M, M = movE T p q r s t u := ⟨_, rfl⟩
    have hV : movV w0 w1 w2 w3 w4 w5 l a b c d e f T p q r s t u = if X = 0 then M else X := by
      unfold movV firstE
      rw [← hX, ← hM]
      by_cases g : X = 0
      · rw [if_pos g, if_pos g]; unfold firstE
        by_cases g2 : M = 0
        · rw [if_pos g2, g2]; rfl
        · rw [if_neg g2]
      · rw [if_neg g, if_neg g]
    have hS : sqE w0 w1 w2 w3 w4 w5 l k a b c d e f = if N = 0 then (if idxE k (l.length : Int) = 0 then X else idxE k (l.length : Int)) else N := by
      unfold sqE firstE
      rw [← hX, ← hN]
      by_cases g : N = 0
      · rw [if_pos g, if_pos g]; unfold firstE
        by_cases g2 : idxE k (l.length : Int) = 0
        · rw [if_pos g2, if_pos g2]; unfold firstE
          by_cases g3 : X = 0
          · rw [if_pos g3, g3]; rfl
          · rw [if_neg g3]
        · rw [if_neg g2, if_neg g2]
      · rw [if_neg g, if_neg g]
    have hXN : N ≠ 0 → X = N := by
      intro g
      rw [hX, hN]; unfold boxV
      rw [if_neg (by rw [← hN]; exact g)]
    rw [hV, hS, ← hN, c5, c6, ← hX, ← hM]
    have same1 := m_same (cmB (fwd a b c d e f T p q r s t u) w0 w1 w2 w3 w4 w5)
    have same2 := m_same (cmB (fwd a b c d e f T (-q) (-p) (-s) (-r) (-u) (-t)) w0 w1 w2 w3 w4 w5)
    have both : X = 0 → M = 0 → r5_Carried 1000 w0 w1 w2 w3 w4 w5 l a b c d e f T p q r s t u = some (cmB (fwd a b c d e f T p q r s t u) w0 w1 w2 w3 w4 w5) ∧ r5_CarriedBack 1000 w0 w1 w2 w3 w4 w5 l a b c d e f T p q r s t u = some (cmB (fwd a b c d e f T (-q) (-p) (-s) (-r) (-u) (-t)) w0 w1 w2 w3 w4 w5) := fun g1 g2 => by
      have hb := inB_of (hX.symm.trans g1) (hM.symm.trans g2)
      exact ⟨r_carried (by omega) hb _ _ _ _ _ _ _, r_back (by omega) hb _ _ _ _ _ _ _⟩
    by_cases g1 : N = 0
    · simp only [g1, if_true]
      rw [wrapB (x := (l.length : Int) - 1) (by omega) (by omega), x_within, Option.bind_some]
      by_cases g2 : 0 ≤ k ∧ k ≤ (l.length : Int) - 1
      · have gi : idxE k (l.length : Int) = 0 := by unfold idxE; rw [if_neg (by omega)]
        obtain ⟨x, hx⟩ : ∃ x, l[0 + k.toNat]? = some x := ⟨_, List.getElem?_eq_getElem (by omega)⟩
        simp only [decide_eq_true g2, if_true, gi, Option.bind_some]
        by_cases g3 : X = 0
        · obtain ⟨_, b1, b2, b3⟩ := boxV_zero (hX.symm.trans g3)
          have hx' := net_in (hN.symm.trans g1) x (List.mem_of_getElem? hx)
          simp only [g3, if_true, hx, Option.bind_some]
          rw [if_pos g2.1, if_pos (by omega), r_sq (by omega) ⟨hx'.1, by omega⟩ ⟨hx'.2.1, by omega⟩ ⟨hx'.2.2, by omega⟩]
          simp only [Option.bind_some, if_true]
          by_cases g4 : M = 0
          · obtain ⟨d1, d2⟩ := both g3 g4
            simp only [g4, if_true]
            rw [d1, d2]
            simp only [Option.bind_some]
            rw [same1, Option.bind_some, if_pos rfl, same2, Option.bind_some, if_pos rfl]
          · simp only [if_neg g4, if_true]
        · simp only [if_neg g3, if_true]
      · have gi : idxE k (l.length : Int) = 6 := by unfold idxE; rw [if_pos (by omega)]
        simp only [decide_eq_false g2, gi, Bool.false_eq_true, if_false, show ¬ ((6 : Int) = 0) by omega, if_true, Option.bind_some]
        by_cases g3 : X = 0
        · simp only [g3, if_true]
          by_cases g4 : M = 0
          · obtain ⟨d1, d2⟩ := both g3 g4
            simp only [g4, if_true]
            rw [d1, d2]
            simp only [Option.bind_some]
            rw [same1, Option.bind_some, if_pos rfl, same2, Option.bind_some, if_pos rfl]
          · simp only [if_neg g4, if_true]
        · simp only [if_neg g3, if_true]
    · have g3 : X = N := hXN g1
      have g4 : ¬ X = 0 := by rw [g3]; exact g1
      simp only [if_neg g1, if_true, Option.bind_some]
      rw [g3]
      simp only [if_neg g1, if_true]
  · rw [if_neg h1, Option.bind_some, if_neg (by simp)]
end Go.Proofs.YtaafodbiigdbaaaGreat
