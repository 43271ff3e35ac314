/-
  Walks of chapter 1: strengths, roots, membership.
-/
import Derived.Test.YtekinmafdhgmpaaZMf
import Derived.Test.YtekinmafdhgmpaaZMg
namespace Go.Proofs.Ytekinmafdhgmpaa
open Go.RowKit Go.Shelf
attribute [local go_sem] monoUpon_value monoUpon_skip monoUpon_enter

/-! ### strengths -/
def strErr (n : Int) : Int := limErr 0 50000 n
def strsErr (l : Ln) (s : List Int) : Int := if s.length = l.ks.length then (fb strErr s 0).2 else 10
theorem strErr_ok {n : Int} : strErr n = 0 ↔ 0 ≤ n ∧ n ≤ 50000 := by
  unfold strErr limErr
  split
  · simp; omega
  · simp; omega
theorem strErr_in {n : Int} (h : inB n 0 50000 = true) : strErr n = 0 := strErr_ok.2 (inB_iff.1 h)
theorem strErr_out {n : Int} (h : inB n 0 50000 = false) : strErr n = 2 := by
  have := inB_no h
  unfold strErr limErr
  split
  · omega
  · rfl
theorem strsErr_ok {l : Ln} {s : List Int} (h : strsErr l s = 0) : s.length = l.ks.length ∧ ∀ n ∈ s, 0 ≤ n ∧ n ≤ 50000 := by
  unfold strsErr at h
  by_cases h1 : s.length = l.ks.length
  · rw [if_pos h1] at h
    exact ⟨h1, fun n hn => strErr_ok.1 ((fb_ok _ s 0).1 h n hn)⟩
  · rw [if_neg h1] at h; omega
theorem strsErr_of {l : Ln} {s : List Int} (h : s.length = l.ks.length) (h' : ∀ n ∈ s, 0 ≤ n ∧ n ≤ 50000) : strsErr l s = 0 := by
  unfold strsErr
  rw [if_pos h]
  exact (fb_ok _ s 0).2 fun n hn => strErr_ok.2 (h' n hn)
/-! ### membership -/
def hasL (xs : List Int) (n : Int) : Bool := xs.any fun x => decide (x = n)
theorem hasL_take (xs : List Int) (n : Int) (k : Nat) (h : k < xs.length) : hasL (xs.take (k + 1)) n = (hasL (xs.take k) n || decide (xs[k] = n)) := by
  unfold hasL
  rw [List.take_succ_eq_append_getElem h, List.any_append]
  simp
theorem hasL_found (xs : List Int) (n : Int) (k : Nat) (h : k < xs.length) (e : xs[k] = n) : hasL xs n = true := by
  unfold hasL
  exact List.any_eq_true.2 ⟨_, List.getElem_mem h, by simp [e]⟩
end Go.Proofs.Ytekinmafdhgmpaa

namespace Go.Proofs.Ytekinmafdhgmpaa
open Go.RowKit Go.Shelf
attribute [local go_sem] monoUpon_value monoUpon_skip monoUpon_enter

/-- The indexes, below k, of tensions that are too great for their strengths. -/
def brokenK (ts : List (Int × Int)) (s : List Int) (k : Nat) : List Int := ((List.range k).filter fun i => decide (s.getD i 0 * s.getD i 0 < sq (ts.getD i (0, 0)))).map fun (i : Nat) => (i : Int)
theorem brokenK_succ (ts : List (Int × Int)) (s : List Int) (k : Nat) : brokenK ts s (k + 1) = if s.getD k 0 * s.getD k 0 < sq (ts.getD k (0, 0)) then brokenK ts s k ++ [(k : Int)] else brokenK ts s k := by
  unfold brokenK
  rw [List.range_succ, List.filter_append, List.map_append]
  by_cases h : s.getD k 0 * s.getD k 0 < sq (ts.getD k (0, 0))
  · have hd := decide_eq_true h
    rw [if_pos h]
    simp only [List.filter_cons, hd, List.filter_nil, if_true, List.map_cons, List.map_nil]
  · have hd := decide_eq_false h
    rw [if_neg h]
    simp only [List.filter_cons, hd, Bool.false_eq_true, if_false, List.filter_nil, List.map_nil, List.append_nil]
theorem brokenK_len (ts : List (Int × Int)) (s : List Int) (k : Nat) : (brokenK ts s k).length ≤ k := by
  unfold brokenK
  rw [List.length_map]
  exact Nat.le_trans (List.length_filter_le _ _) (by simp)
def brokenR (l : Ln) (c s : List Int) : List Int := brokenK (tens l c) s (tens l c).length
/-- The links that are broken, and the error. -/
def brokenIn (l : Ln) (c s : List Int) : List Int × Int := if currentsErr l c = 0 then (if strsErr l s = 0 then (brokenR l c s, 0) else ([], strsErr l s)) else ([], currentsErr l c)
theorem ret_listI {q : List Int × Int} {k : List Int} {a : Int} {r : Value} {base : Nat} {w : World} (h : q = (k, a)) (ho : Ow e1 1 3 base w r k) :
    Ending.returned (.tuple #[r, .int .i64 a]) = .returned (.tuple #[r, .int .i64 q.2]) ∧ Ow e1 1 3 base w r q.1 := by rw [h]; exact ⟨rfl, ho⟩
end Go.Proofs.Ytekinmafdhgmpaa

namespace Go.Proofs.Ytekinmafdhgmpaa
open Go.RowKit Go.Shelf

/-- The root bit by bit: j bits are left, r is what has been found. -/
def rootJ (n : Int) : Nat → Int → Int
  | 0, r => r
  | j + 1, r => if (r + 2 ^ j) * (r + 2 ^ j) ≤ n then rootJ n j (r + 2 ^ j) else rootJ n j r
def isqrt (n : Int) : Int := rootJ n 31 0
def isqrtUp (n : Int) : Int := if isqrt n * isqrt n < n then isqrt n + 1 else isqrt n
theorem pow_pos2 (j : Nat) : (0 : Int) < 2 ^ j := Int.pow_pos (by decide)
theorem rootJ_spec (n : Int) : ∀ (j : Nat) (r : Int), 0 ≤ r → r * r ≤ n → n < (r + 2 ^ j) * (r + 2 ^ j) → 0 ≤ rootJ n j r ∧ rootJ n j r * rootJ n j r ≤ n ∧ n < (rootJ n j r + 1) * (rootJ n j r + 1)
  | 0, r, h0, h1, h2 => by simp only [rootJ]; refine ⟨h0, h1, by simpa using h2⟩
  | j + 1, r, h0, h1, h2 => by
    have hp := pow_pos2 j
    simp only [rootJ]
    split
    · rename_i h
      refine rootJ_spec n j _ (by omega) h ?_
      rw [Int.add_assoc, show (2 : Int) ^ j + 2 ^ j = 2 ^ (j + 1) by rw [Int.pow_succ]; omega]
      exact h2
    · exact rootJ_spec n j r h0 h1 (by omega)
theorem isqrt_spec {n : Int} (h0 : 0 ≤ n) (h1 : n < 2 ^ 62) : 0 ≤ isqrt n ∧ isqrt n * isqrt n ≤ n ∧ n < (isqrt n + 1) * (isqrt n + 1) :=
  rootJ_spec n 31 0 (Int.le_refl _) (by omega) (by simp only [Int.zero_add]; rw [show (2 : Int) ^ 31 * 2 ^ 31 = 2 ^ 62 by decide]; exact h1)
theorem isqrt_bd {n : Int} (h0 : 0 ≤ n) (h1 : n < 2 ^ 62) : isqrt n < 2 ^ 31 := by
  obtain ⟨a, b, _⟩ := isqrt_spec h0 h1
  rcases Int.lt_or_le (isqrt n) (2 ^ 31) with h | h
  · exact h
  · have h2 : (2 ^ 31 : Int) * 2 ^ 31 ≤ isqrt n * isqrt n := Int.mul_le_mul h h (by decide) a
    have h3 : (2 : Int) ^ 31 * 2 ^ 31 = 2 ^ 62 := by decide
    omega
/-- The root rounded up: its square is at least the number, and it is no greater than any number of which that holds. -/
theorem isqrtUp_spec {n : Int} (h0 : 0 ≤ n) (h1 : n < 2 ^ 62) : 0 ≤ isqrtUp n ∧ n ≤ isqrtUp n * isqrtUp n ∧ isqrtUp n ≤ isqrt n + 1 := by
  obtain ⟨a, b, c⟩ := isqrt_spec h0 h1
  unfold isqrtUp
  split
  · exact ⟨by omega, by omega, by omega⟩
  · exact ⟨a, by omega, by omega⟩
/-- The bit that is tried when j bits are left. -/
def bitJ : Nat → Int
  | 0 => 0
  | j + 1 => 2 ^ j
theorem bitJ_half (j : Nat) : (bitJ (j + 1)).tdiv 2 = bitJ j := by
  cases j with
  | zero => decide
  | succ j =>
    simp only [bitJ]
    rw [Int.pow_succ, Int.tdiv_eq_ediv_of_nonneg (by have := pow_pos2 j; omega)]
    omega
theorem bitJ_le : ∀ j, j ≤ 31 → bitJ j ≤ 1073741824
  | 0, _ => by decide
  | j + 1, h => by
    simp only [bitJ]
    have : (2 : Int) ^ j ≤ 2 ^ 30 := by
      have h1 : 2 ^ j ≤ 2 ^ 30 := Nat.pow_le_pow_right (by decide) (by omega)
      exact_mod_cast h1
    have h2 : (2 : Int) ^ 30 = 1073741824 := by decide
    omega
theorem bitJ_nn : ∀ j, 0 ≤ bitJ j
  | 0 => by decide
  | j + 1 => by simp only [bitJ]; have := pow_pos2 j; omega
end Go.Proofs.Ytekinmafdhgmpaa

namespace Go.Proofs.Ytekinmafdhgmpaa
open Go.RowKit Go.Shelf

section
variable {P : Program}
theorem wpList_append_at (w : World) {ops : Array Oper} {rest : List Oper} {o : Oper} {a : Act} {Q : Exit → Act → World → Prop} (hgd : o.guard = none) (s x : Operand) (t : TypeId)
    (ho : o.op = .call { callee := .builtin .append, args := #[s, x], argTypes := #[t, t] })
    (base : Nat) (e : TypeId) (i : TypeInfo) (z : Value) (size bytes : Nat) (ht : P.underlying t = some (.slice e)) (hi : P.info? e = some i) (hz : i.zero = some z)
    (hsize : i.size = size) (hby : i.bytes = bytes) (hzs : z.cells.size = size) (hsz : 0 < size)
    (v : Value) (n : Nat) (xs : List Value) (hs : a.eval s = v) (hown : w.ownsRow base e size v n xs)
    (ad : Addr) (m c : Nat) (news : List Value) (hx : a.eval x = .slice (some ad) m c) (hl : news.length = m * size) (hnews : ∀ j u, news[j]? = some u → w.cell? (ad.add j) = some u) (h1 : ∀ u ∈ news, u.oneCell' = true)
    (h63 : n + m ≤ maxLen) (hbytes : (n + m) * bytes ≤ 140737488355328) (hbase : base ≤ w.heap.size)
    (h : ∀ v' w', w'.ownsRow base e size v' (n + m) (xs ++ news) → w.grownBy w' v.ownBlock → (v'.ownBlock = v.ownBlock ∨ v'.ownBlock = some w.heap.size) → wpList P ops Q rest (a.put o.dst v') w') : wpList P ops Q (o :: rest) a w :=
  wpList_plain hgd fun _ hK => by
    obtain ⟨v', w', hr, h2, h3, _, h5⟩ := run_append_own_at (P := P) w base t o.type e i z size bytes ht hi hz hsize hby hzs hsz v n xs hown ad m c news hl hnews h1 h63 hbytes hbase
    unfold Oper.wp execOp
    simp only [ho, resolve, invoke, builtin, Sem.run_bind, Sem.run_pure, Result.andThen_ok, List.map_toArray, List.map_cons, List.map_nil, hs, hx, hr]
    exact hK _ _ (h v' w' h2 h3 h5)
end
/-- Two rows lie apart. -/
def Apart (v u : Value) : Prop := ∀ b, v.ownBlock = some b → u.ownBlock ≠ some b
theorem Apart.symm {v u : Value} (h : Apart v u) : Apart u v := fun b hb hv => h b hv hb
theorem Ow.beside {α : Type} {enc : α → List Value} {s : Nat} {e : TypeId} {base : Nat} {w w' : World} {v u : Value} {xs : List α} (h : Ow enc s e base w v xs) (ha : Apart v u) (hg : w.grownBy w' u.ownBlock) : Ow enc s e base w' v xs :=
  World.ownsRow.kept h hg (by
    cases hv : v.ownBlock with
    | none => exact .inl rfl
    | some b => exact .inr fun hh => ha b hv hh.symm)
theorem Apart.grown {α : Type} {enc : α → List Value} {s : Nat} {e : TypeId} {base : Nat} {w : World} {v u v' : Value} {xs : List α} (h : Apart v u) (ho : Ow enc s e base w u xs) {n : Nat} (hn : w.heap.size ≤ n) (hb : v'.ownBlock = v.ownBlock ∨ v'.ownBlock = some n) : Apart v' u := by
  intro b hb' hu
  rcases hb with e' | e'
  · exact h b (e' ▸ hb') hu
  · rw [e'] at hb'
    injection hb' with hb'
    have := (World.ownsRow.lt ho b hu).2
    omega

/-! ### the strongest link -/
theorem strongK_max (ts : List (Int × Int)) : ∀ (k i : Nat), i < k → sq (ts.getD i (0, 0)) ≤ sq (ts.getD (strongK ts k) (0, 0))
  | 0, i, h => by omega
  | k + 1, i, h => by
    rw [strongK_succ]
    split
    · rename_i hlt
      by_cases e : i = k
      · subst e; exact Int.le_refl _
      · have := strongK_max ts k i (by omega)
        omega
    · rename_i hge
      by_cases e : i = k
      · subst e; omega
      · exact strongK_max ts k i (by omega)
theorem sq_bd2 {t : Int × Int} (h1 : -20000 ≤ t.1 ∧ t.1 ≤ 20000) (h2 : -20000 ≤ t.2 ∧ t.2 ≤ 20000) : 0 ≤ sq t ∧ sq t ≤ 800000000 := by
  have e : sq t = t.1 * t.1 + t.2 * t.2 := rfl
  have m1 := mul_bd t.1 t.1 20000 20000 h1 h1
  have m2 := mul_bd t.2 t.2 20000 20000 h2 h2
  have p1 : 0 ≤ t.1 * t.1 := by
    rcases Int.le_total 0 t.1 with h | h
    · exact Int.mul_nonneg h h
    · exact Int.mul_nonneg_of_nonpos_of_nonpos h h
  have p2 : 0 ≤ t.2 * t.2 := by
    rcases Int.le_total 0 t.2 with h | h
    · exact Int.mul_nonneg h h
    · exact Int.mul_nonneg_of_nonpos_of_nonpos h h
  omega
theorem isqrtUp_bd {n : Int} (h0 : 0 ≤ n) (h1 : n ≤ 800000000) : 0 ≤ isqrtUp n ∧ isqrtUp n ≤ 50000 ∧ n ≤ isqrtUp n * isqrtUp n := by
  have h62 : n < 2 ^ 62 := by have : (2 : Int) ^ 62 = 4611686018427387904 := by decide
                              omega
  obtain ⟨a, b, c⟩ := isqrtUp_spec h0 h62
  obtain ⟨d, e, _⟩ := isqrt_spec h0 h62
  have : isqrt n < 30000 := by
    rcases Int.lt_or_le (isqrt n) 30000 with h | h
    · exact h
    · have h2 : (30000 : Int) * 30000 ≤ isqrt n * isqrt n := Int.mul_le_mul h h (by decide) d
      omega
  exact ⟨a, by omega, b⟩

/-! ### greater strengths -/
def moreK (s : List Int) (k : Nat) : List Int := (List.range k).map fun (i : Nat) => min 50000 (s.getD i 0 + (i : Int))
theorem moreK_succ (s : List Int) (k : Nat) : moreK s (k + 1) = moreK s k ++ [min 50000 (s.getD k 0 + (k : Int))] := by
  unfold moreK
  rw [List.range_succ, List.map_append]
  rfl
theorem moreK_len (s : List Int) (k : Nat) : (moreK s k).length = k := by simp [moreK]
theorem moreK_getD (s : List Int) (k i : Nat) (h : i < k) : (moreK s k).getD i 0 = min 50000 (s.getD i 0 + (i : Int)) := by
  unfold moreK
  rw [getD_eq _ _ _ (by simpa using h)]
  simp
theorem getD_in' (s : List Int) (h : ∀ n ∈ s, 0 ≤ n ∧ n ≤ 50000) (i : Nat) : 0 ≤ s.getD i 0 ∧ s.getD i 0 ≤ 50000 := by
  rcases Nat.lt_or_ge i s.length with hi | hi
  · rw [getD_eq _ _ _ hi]; exact h _ (List.getElem_mem hi)
  · have e : s.getD i 0 = 0 := by rw [List.getD_eq_getElem?_getD, List.getElem?_eq_none hi]; rfl
    rw [e]; decide
theorem moreK_in (s : List Int) (h : ∀ n ∈ s, 0 ≤ n ∧ n ≤ 50000) (k : Nat) : ∀ n ∈ moreK s k, 0 ≤ n ∧ n ≤ 50000 := by
  intro n hn
  unfold moreK at hn
  obtain ⟨i, _, rfl⟩ := List.mem_map.1 hn
  have := getD_in' s h i
  omega
theorem mem_brokenK {ts : List (Int × Int)} {s : List Int} {k : Nat} {n : Int} : n ∈ brokenK ts s k ↔ ∃ i : Nat, i < k ∧ s.getD i 0 * s.getD i 0 < sq (ts.getD i (0, 0)) ∧ (i : Int) = n := by
  unfold brokenK
  simp only [List.mem_map, List.mem_filter, List.mem_range, decide_eq_true_eq]
  constructor
  · rintro ⟨i, ⟨h1, h2⟩, h3⟩; exact ⟨i, h1, h2, h3⟩
  · rintro ⟨i, h1, h2, h3⟩; exact ⟨i, ⟨h1, h2⟩, h3⟩
theorem brokenK_fewer (ts : List (Int × Int)) (s : List Int) (h : ∀ n ∈ s, 0 ≤ n ∧ n ≤ 50000) (k : Nat) : ∀ n ∈ brokenK ts (moreK s k) k, n ∈ brokenK ts s k := by
  intro n hn
  obtain ⟨i, h1, h2, h3⟩ := mem_brokenK.1 hn
  refine mem_brokenK.2 ⟨i, h1, ?_, h3⟩
  rw [moreK_getD _ _ _ h1] at h2
  have hb := getD_in' s h i
  have hle : s.getD i 0 ≤ min 50000 (s.getD i 0 + (i : Int)) := by omega
  have := Int.mul_le_mul hle hle hb.1 (by omega)
  omega
theorem brokenK_none (ts : List (Int × Int)) (ru n : Int) (k : Nat) (h : ∀ i, i < k → sq (ts.getD i (0, 0)) ≤ n) (hn : n ≤ ru * ru) : brokenK ts (List.replicate k ru) k = [] := by
  apply List.eq_nil_iff_forall_not_mem.2
  intro x hx
  obtain ⟨i, h1, h2, _⟩ := mem_brokenK.1 hx
  rw [getD_eq _ _ _ (by simpa using h1), List.getElem_replicate] at h2
  have := h i h1
  omega
theorem hasL_of {xs : List Int} {n : Int} (h : n ∈ xs) : hasL xs n = true := List.any_eq_true.2 ⟨n, h, by simp⟩
theorem replicate_snoc (k : Nat) (n : Int) : List.replicate (k + 1) n = List.replicate k n ++ [n] := List.replicate_succ'
end Go.Proofs.Ytekinmafdhgmpaa
