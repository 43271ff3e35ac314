/-
  Sets of numbers and their minimum; shifts: the program and the reference say the same.
-/
import Derived.Test.YtidahkefillmeaaGreatDoorZS9b
import Derived.Test.YtidahkefillmeaaGreatDoorZS9s
import Derived.Test.YtidahkefillmeaaGreatDoorZS9r
set_option linter.all false
namespace Go.Proofs.YtidahkefillmeaaGreatDoor
open Go Go.RowKit
def allB (n : Nat) (f : Nat → Bool) : Bool := match n with
  | 0 => true
  | n + 1 => f n && allB n f
theorem allB_at {f : Nat → Bool} : ∀ {n : Nat}, allB n f = true → ∀ i, i < n → f i = true
  | 0, _, i, h => by omega
  | n + 1, h, i, hi => by
    simp only [allB, Bool.and_eq_true] at h
    by_cases c : i = n
    · subst c; exact h.1
    · exact allB_at h.2 i (by omega)
/-! ### Sets -/
def hb (s i : Nat) : Bool := decide (Cm.bitE .and .i64 (Cm.bitE .shr .i64 (s : Int) (i : Int)) 1 = 1)
theorem p_has (s i : Nat) : u_Set_Has (s : Int) (i : Int) = some (hb s i) := by
  unfold u_Set_Has hb
  rw [if_pos (by omega)]
  split <;> simp_all
theorem hb_zero (i : Nat) : hb 0 i = false := by
  unfold hb Cm.bitE
  rw [show (((0 : Nat) : Int)) = 0 from rfl]
  simp only [Int.zero_fdiv]
  decide
def brute : Bool := allB 256 fun s => (allB 9 fun N => decide (s < 2 ^ N → Lib.bitLen s ≤ N)) && (allB 8 fun i => decide (Lib.bitLen s ≤ i → hb s i = false)) && decide (IntKind.wrap .u64 (s : Int) = (s : Int))
theorem brute_ok : brute = true := by decide +kernel
theorem brute_at {s : Nat} (h : s < 256) : (∀ N, N < 9 → s < 2 ^ N → Lib.bitLen s ≤ N) ∧ (∀ i, i < 8 → Lib.bitLen s ≤ i → hb s i = false) ∧ IntKind.wrap .u64 (s : Int) = (s : Int) := by
  have := allB_at brute_ok s h
  simp only [Bool.and_eq_true, decide_eq_true_eq] at this
  exact ⟨fun N hN => of_decide_eq_true (allB_at this.1.1 N hN), fun i hi => of_decide_eq_true (allB_at this.1.2 i hi), this.2⟩
theorem shl_ok : (allB 9 fun N => decide (Cm.bitE .shl .i64 (1 : Int) (N : Int) = ((2 ^ N : Nat) : Int))) = true := by decide +kernel
theorem shl_at {N : Nat} (h : N < 9) : Cm.bitE .shl .i64 (1 : Int) (N : Int) = ((2 ^ N : Nat) : Int) := of_decide_eq_true (allB_at shl_ok N h)
def but0 : Bool := allB 9 fun N => decide (0 < N → 2 ^ N - 2 < 2 ^ N ∧ hb (2 ^ N - 2) 0 = false)
theorem but0_ok : but0 = true := by decide +kernel
theorem but0_at {N : Nat} (h : N < 9) (h0 : 0 < N) : 2 ^ N - 2 < 2 ^ N ∧ hb (2 ^ N - 2) 0 = false := of_decide_eq_true (allB_at but0_ok N h) h0
theorem but1_ok : (allB 9 fun N => allB N fun i => decide (0 < i → hb (2 ^ N - 2) i = true)) = true := by decide +kernel
theorem but1_at {N i : Nat} (h : N < 9) (hi : i < N) (h0 : 0 < i) : hb (2 ^ N - 2) i = true := of_decide_eq_true (allB_at (allB_at but1_ok N h) i hi) h0
def ownF (s : Nat) : Nat → Nat → List Int
  | 0, _ => []
  | k + 1, i => if hb s i = true then (i : Int) :: ownF s k (i + 1) else ownF s k (i + 1)
theorem ownF_len (s : Nat) : ∀ k i, (ownF s k i).length ≤ k
  | 0, _ => Nat.le_refl _
  | k + 1, i => by
    have := ownF_len s k (i + 1)
    unfold ownF
    split
    · simp only [List.length_cons]; omega
    · omega
theorem ownF_none {s : Nat} : ∀ {k i : Nat}, (∀ j, i ≤ j → j < i + k → hb s j = false) → ownF s k i = []
  | 0, _, _ => rfl
  | k + 1, i, h => by
    unfold ownF
    rw [if_neg (by rw [h i (Nat.le_refl _) (by omega)]; exact Bool.false_ne_true)]
    exact ownF_none fun j a b => h j (by omega) (by omega)
theorem ownF_more {s : Nat} : ∀ {a b i : Nat}, (∀ j, i + a ≤ j → j < i + a + b → hb s j = false) → ownF s (a + b) i = ownF s a i
  | 0, b, i, h => by rw [Nat.zero_add]; exact ownF_none fun j h1 h2 => h j (by omega) (by omega)
  | a + 1, b, i, h => by
    have := ownF_more (s := s) (a := a) (b := b) (i := i + 1) fun j h1 h2 => h j (by omega) (by omega)
    rw [show a + 1 + b = (a + b) + 1 by omega]
    unfold ownF
    rw [this]
theorem ownF_mem {s : Nat} : ∀ {k i : Nat} (j : Nat), i ≤ j → j < i + k → ((j : Int) ∈ ownF s k i ↔ hb s j = true)
  | 0, i, j, h1, h2 => by omega
  | k + 1, i, j, h1, h2 => by
    unfold ownF
    have low : ∀ k i', j < i' → ¬ (j : Int) ∈ ownF s k i' := by
      intro k
      induction k with
      | zero => intro i' _ h; cases h
      | succ k ih =>
        intro i' hj h
        unfold ownF at h
        split at h
        · rcases List.mem_cons.1 h with h | h
          · omega
          · exact ih (i' + 1) (by omega) h
        · exact ih (i' + 1) (by omega) h
    by_cases c : j = i
    · subst c
      by_cases d : hb s j = true
      · rw [if_pos d]; exact ⟨fun _ => d, fun _ => List.mem_cons_self ..⟩
      · rw [if_neg d]; exact ⟨fun h => absurd h (low k (j + 1) (by omega)), fun h => absurd h d⟩
    · have := ownF_mem (s := s) (k := k) (i := i + 1) j (by omega) (by omega)
      by_cases d : hb s i = true
      · rw [if_pos d, List.mem_cons, this]
        exact ⟨fun h => h.resolve_left (by omega), .inr⟩
      · rw [if_neg d, this]
def own (N s : Nat) : List Int := ownF s N 0
theorem own_len (N s : Nat) : (own N s).length ≤ N := ownF_len s N 0
theorem own_zero (N : Nat) : own N 0 = [] := ownF_none fun j _ _ => hb_zero j
theorem own_but {N : Nat} (h : N < 9) (h0 : 0 < N) : (own N (2 ^ N - 2)).length ≤ N - 1 := by
  obtain ⟨M, rfl⟩ : ∃ M, N = M + 1 := ⟨N - 1, by omega⟩
  unfold own ownF
  rw [if_neg (by rw [(but0_at h h0).2]; exact Bool.false_ne_true)]
  exact ownF_len _ M 1
theorem p_mem_run {fu : Nat} (s L : Nat) (hL : L < 60000) : ∀ (n i : Nat) (A : List Int), i ≤ L → L - i < n → A.length ≤ i → u_Set_Members_L1 fu (s : Int) (L : Int) n A (i : Int) = some (A ++ ownF s (L - i) i)
  | 0, i, _, _, h, _ => by omega
  | n + 1, i, A, hi, h, hA => by
    rcases Nat.lt_or_ge i L with h1 | h1
    · rw [u_Set_Members_L1, if_pos (by omega), p_has, Option.bind_some, wrapS (by omega), show L - i = (L - (i + 1)) + 1 by omega]
      unfold ownF
      by_cases c : hb s i = true
      · rw [if_pos c, if_pos (by omega), if_pos c, p_mem_run s L hL n (i + 1) _ (by omega) (by omega) (by simp; omega), List.append_assoc]; rfl
      · rw [if_neg c, if_neg c, p_mem_run s L hL n (i + 1) A (by omega) (by omega) (by omega)]
    · have : i = L := by omega
      subst this
      rw [u_Set_Members_L1, if_neg (by omega), Nat.sub_self]; simp [ownF]
theorem pow_le {N : Nat} (h : N < 9) : 2 ^ N ≤ 256 := by
  have := Nat.pow_le_pow_right (show 0 < 2 by omega) (show N ≤ 8 by omega)
  simpa using this
theorem p_members {fu : Nat} (hf : 1000 ≤ fu) {N s : Nat} (hN : N < 9) (hs : s < 2 ^ N) : u_Set_Members fu (s : Int) = some (own N s) := by
  have h256 : s < 256 := Nat.lt_of_lt_of_le hs (pow_le hN)
  obtain ⟨b1, b2, b3⟩ := brute_at h256
  have hb1 := b1 N hN hs
  have := p_mem_run (fu := fu) s (Lib.bitLen s) (by omega) fu 0 [] (by omega) (by omega) (by simp)
  unfold u_Set_Members math_bits_Len bits_Len64
  rw [b3, if_pos (by omega), Option.bind_some, Option.bind_some]
  rw [show ((0 : Nat) : Int) = 0 from rfl] at this
  rw [show ((s : Int)).toNat = s by omega, this, Option.bind_some, List.nil_append, Nat.sub_zero]
  unfold own
  rw [← ownF_more (s := s) (a := Lib.bitLen s) (b := N - Lib.bitLen s) (i := 0) (fun j h1 h2 => b2 j (by omega) (by omega))]
  rw [show Lib.bitLen s + (N - Lib.bitLen s) = N by omega]
theorem r_mem2 {fu : Nat} {l : List (Int × Int × Int × Int)} (hl : l.length < 500) (B : List Int) (b : Bool) (s : Nat) : ∀ (n i : Nat) (A : List Int), i ≤ l.length → l.length - i < n → A.length ≤ i → r9_Odd_L2 fu l B b (s : Int) n A (i : Int) = some (B, A ++ ownF s (l.length - i) i)
  | 0, i, _, _, h, _ => by omega
  | n + 1, i, A, hi, h, hA => by
    rcases Nat.lt_or_ge i l.length with h1 | h1
    · rw [r9_Odd_L2, if_pos (by omega), if_pos (by omega), wrapS (by omega), show l.length - i = (l.length - (i + 1)) + 1 by omega]
      unfold ownF
      by_cases c : hb s i = true
      · rw [if_pos (of_decide_eq_true c), if_pos (by omega), if_pos c, r_mem2 hl B b s n (i + 1) _ (by omega) (by omega) (by simp; omega), List.append_assoc]; rfl
      · rw [if_neg (fun h => c (decide_eq_true h)), if_neg c, r_mem2 hl B b s n (i + 1) A (by omega) (by omega) (by omega)]
    · have : i = l.length := by omega
      subst this
      rw [r9_Odd_L2, if_neg (by omega), Nat.sub_self]; simp [ownF]
/-! ### Order of sets -/
def cmpL : List Int → List Int → Int
  | [], [] => 0
  | [], _ :: _ => -1
  | _ :: _, [] => 1
  | a :: r, b :: q => if a < b then -1 else if b < a then 1 else cmpL r q
theorem p_cmp (a b : Int) : cmp_Compare_int a b = some (if a < b then -1 else if b < a then 1 else 0) := by
  unfold cmp_Compare_int cmp_isNaN_int
  simp only [Option.bind_some, Bool.false_eq_true, if_false]
  (repeat' split) <;> rfl
theorem p_scmp_run {fu : Nat} (A B : List Int) (hA : A.length < 60000) : ∀ (n i : Nat), i ≤ A.length → i ≤ B.length → A.length - i < n →
    (match slices_Compare_int_int_L1 fu A B (A.length : Int) n (i : Int) with | some (.inl y) => some y | some (.inr _) => (if (A.length : Int) < (B.length : Int) then some (-1) else some 0) | none => none) = some (cmpL (A.drop i) (B.drop i))
  | 0, i, _, _, h => by omega
  | n + 1, i, hi, hj, h => by
    rcases Nat.lt_or_ge i A.length with h1 | h1
    · have he : A[i]? = some A[i] := List.getElem?_eq_getElem h1
      obtain ⟨g1, g2, g3⟩ := idx he
      rw [slices_Compare_int_int_L1, if_pos g1, if_pos g2, if_pos g1, g3, Option.bind_some, List.drop_eq_getElem_cons h1]
      rcases Nat.lt_or_ge i B.length with h2 | h2
      · have hf : B[i]? = some B[i] := List.getElem?_eq_getElem h2
        obtain ⟨k1, k2, k3⟩ := idx hf
        rw [if_neg (by omega), k3, Option.bind_some, p_cmp, Option.bind_some, List.drop_eq_getElem_cons h2, cmpL, wrapS (by omega)]
        by_cases c : A[i] < B[i]
        · simp [c]
        · by_cases d : B[i] < A[i]
          · simp [c, d]
          · simp only [c, d, if_false, if_true]
            exact p_scmp_run A B hA n (i + 1) (by omega) (by omega) (by omega)
      · rw [if_pos (by omega), List.drop_of_length_le h2]; rfl
    · have : i = A.length := by omega
      subst this
      rw [slices_Compare_int_int_L1, if_neg (by omega), List.drop_of_length_le (Nat.le_refl _)]
      rcases Nat.lt_or_ge A.length B.length with h2 | h2
      · rw [List.drop_eq_getElem_cons h2]
        simp only [cmpL]
        rw [if_pos (by omega)]
      · rw [List.drop_of_length_le h2]
        simp only [cmpL]
        rw [if_neg (by omega)]
theorem p_scmp {fu : Nat} (A B : List Int) (hA : A.length < 60000) (hf : A.length < fu) : slices_Compare_int_int fu A B = some (cmpL A B) := by
  have := p_scmp_run (fu := fu) A B hA fu 0 (by omega) (by omega) (by omega)
  rw [show ((0 : Nat) : Int) = 0 from rfl, List.drop_zero, List.drop_zero] at this
  unfold slices_Compare_int_int
  cases h : slices_Compare_int_int_L1 fu A B (A.length : Int) fu 0 with
  | none => rw [h] at this; cases this
  | some o =>
    rw [h] at this
    rw [Option.bind_some]
    cases o <;> exact this
theorem r_before_run {fu : Nat} (A B : List Int) (hA : A.length < 60000) : ∀ (n i : Nat), i ≤ A.length → i ≤ B.length → A.length - i < n →
    (match b_Before_L1 fu A B n (i : Int) with | some (.inl y) => some y | some (.inr _) => (if (A.length : Int) < (B.length : Int) then some true else some false) | none => none) = some (decide (cmpL (A.drop i) (B.drop i) < 0))
  | 0, i, _, _, h => by omega
  | n + 1, i, hi, hj, h => by
    rcases Nat.lt_or_ge i A.length with h1 | h1
    · have he : A[i]? = some A[i] := List.getElem?_eq_getElem h1
      obtain ⟨g1, g2, g3⟩ := idx he
      rw [b_Before_L1, if_pos g1, List.drop_eq_getElem_cons h1]
      rcases Nat.lt_or_ge i B.length with h2 | h2
      · have hf : B[i]? = some B[i] := List.getElem?_eq_getElem h2
        obtain ⟨k1, k2, k3⟩ := idx hf
        rw [if_pos k1, if_pos g2, g3, Option.bind_some, k3, Option.bind_some, List.drop_eq_getElem_cons h2, cmpL, wrapS (by omega)]
        by_cases e : A[i] = B[i]
        · rw [if_pos e, if_neg (show ¬ A[i] < B[i] by omega), if_neg (show ¬ B[i] < A[i] by omega)]
          exact r_before_run A B hA n (i + 1) (by omega) (by omega) (by omega)
        · rw [if_neg e]
          by_cases c : A[i] < B[i]
          · simp [c]
          · have d : B[i] < A[i] := by omega
            simp [c, d]
      · rw [if_neg (by omega), List.drop_of_length_le h2]
        simp only [cmpL]
        rw [if_neg (by omega)]; rfl
    · have : i = A.length := by omega
      subst this
      rw [b_Before_L1, if_neg (by omega), List.drop_of_length_le (Nat.le_refl _)]
      rcases Nat.lt_or_ge A.length B.length with h2 | h2
      · rw [List.drop_eq_getElem_cons h2]
        simp only [cmpL]
        rw [if_pos (by omega)]; rfl
      · rw [List.drop_of_length_le h2]
        simp only [cmpL]
        rw [if_neg (by omega)]; rfl
theorem r_before {fu : Nat} (A B : List Int) (hA : A.length < 60000) (hf : A.length < fu) : b_Before fu A B = some (decide (cmpL A B < 0)) := by
  have := r_before_run (fu := fu) A B hA fu 0 (by omega) (by omega) (by omega)
  rw [show ((0 : Nat) : Int) = 0 from rfl, List.drop_zero, List.drop_zero] at this
  unfold b_Before
  cases h : b_Before_L1 fu A B fu 0 with
  | none => rw [h] at this; cases this
  | some o =>
    rw [h] at this
    rw [Option.bind_some]
    cases o <;> exact this
def prec (A B : List Int) : Bool := decide (A.length < B.length ∨ (A.length = B.length ∧ cmpL A B < 0))
theorem x_or (fu : Nat) (l : List Int) (h : l.length < fu) (hl : l.length < 4611686018427387904) : cmp_Or_int fu l = some (firstE l) := by
  have := loop_run l (fun n i _ => cmp_Or_int_L1 fu l (l.length : Int) n (i : Int)) (fun _ (e : Int) (_ : Unit) => if e = 0 then (.inr () : Int ⊕ Unit) else .inl e) id
    (fun n s => by rw [cmp_Or_int_L1, if_neg (by omega)]; rfl)
    (fun n i e s he => by
      obtain ⟨h1, h2, h3⟩ := idx he
      rw [cmp_Or_int_L1, if_pos h1, if_pos h2, if_pos h1, h3, Option.bind_some]
      by_cases h0 : e = 0
      · simp only [h0, if_true]; rw [wrapS (by omega)]
      · simp only [h0, if_false]; rfl) fu 0 () (by omega) (by omega)
  unfold cmp_Or_int
  rw [show ((0 : Nat) : Int) = 0 from rfl] at this
  rw [this, List.drop_zero, x_runF_first, Option.bind_some]
  by_cases h0 : firstE l = 0
  · simp [h0]
  · simp [h0]
theorem p_prec {fu : Nat} (hf : 1000 ≤ fu) {N s f : Nat} (hN : N < 9) (hs : s < 2 ^ N) (hg : f < 2 ^ N) : u_Set_precedes fu (s : Int) (f : Int) = some (prec (own N s) (own N f)) := by
  have l1 := own_len N s
  have l2 := own_len N f
  unfold u_Set_precedes prec
  rw [p_members hf hN hs, Option.bind_some, p_members hf hN hg, Option.bind_some, p_cmp, Option.bind_some, p_scmp _ _ (by omega) (by omega), Option.bind_some, x_or fu _ (by simp; omega) (by simp), Option.bind_some]
  simp only [firstE]
  by_cases c : (own N s).length < (own N f).length
  · rw [if_pos (show ((own N s).length : Int) < ((own N f).length : Int) by omega)]; simp [c]
  · rw [if_neg (show ¬ ((own N s).length : Int) < ((own N f).length : Int) by omega)]
    by_cases d : (own N f).length < (own N s).length
    · rw [if_pos (show ((own N f).length : Int) < ((own N s).length : Int) by omega)]
      have e : ¬ ((own N s).length = (own N f).length) := by omega
      simp [c, e]
    · rw [if_neg (show ¬ ((own N f).length : Int) < ((own N s).length : Int) by omega)]
      have e : (own N s).length = (own N f).length := by omega
      simp only [if_true, c, e, false_or, true_and]
      by_cases g : cmpL (own N s) (own N f) = 0
      · simp [g, e]
      · simp only [g, if_false]
        split <;> simp_all
/-! ### The minimum -/
def bsF (fit : Nat → Bool) (ow : Nat → List Int) : Nat → Nat → Nat → Bool → Nat × Bool
  | 0, _, f, ok => (f, ok)
  | k + 1, s, f, ok => if fit s = true ∧ (ok = false ∨ prec (ow s) (ow f) = true) then bsF fit ow k (s + 1) s true else bsF fit ow k (s + 1) f ok
theorem bs_stay {fit : Nat → Bool} {ow : Nat → List Int} : ∀ (k s f : Nat), (bsF fit ow k s f true).2 = true ∧ (ow (bsF fit ow k s f true).1).length ≤ (ow f).length
  | 0, _, _ => ⟨rfl, Nat.le_refl _⟩
  | k + 1, s, f => by
    unfold bsF
    by_cases c : fit s = true ∧ (true = false ∨ prec (ow s) (ow f) = true)
    · rw [if_pos c]
      obtain ⟨a, b⟩ := bs_stay (fit := fit) (ow := ow) k (s + 1) s
      have := of_decide_eq_true (c.2.resolve_left Bool.noConfusion)
      exact ⟨a, by omega⟩
    · rw [if_neg c]; exact bs_stay k (s + 1) f
theorem bs_least {fit : Nat → Bool} {ow : Nat → List Int} {s0 : Nat} (h0 : fit s0 = true) : ∀ (k s f : Nat) (ok : Bool), s ≤ s0 → s0 < s + k → (bsF fit ow k s f ok).2 = true ∧ (ow (bsF fit ow k s f ok).1).length ≤ (ow s0).length
  | 0, _, _, _, h1, h2 => by omega
  | k + 1, s, f, ok, h1, h2 => by
    unfold bsF
    by_cases e : s = s0
    · subst e
      by_cases c : fit s = true ∧ (ok = false ∨ prec (ow s) (ow f) = true)
      · rw [if_pos c]; exact bs_stay k (s + 1) s
      · rw [if_neg c]
        have hok : ok = true := by
          cases ok with
          | true => rfl
          | false => exact absurd ⟨h0, .inl rfl⟩ c
        subst hok
        obtain ⟨a, b⟩ := bs_stay (fit := fit) (ow := ow) k (s + 1) f
        have : ¬ (ow s).length < (ow f).length := fun h => c ⟨h0, .inr (decide_eq_true (.inl h))⟩
        exact ⟨a, by omega⟩
    · split
      · exact bs_least h0 k (s + 1) s true (by omega) (by omega)
      · exact bs_least h0 k (s + 1) f ok (by omega) (by omega)
theorem bs_fit {fit : Nat → Bool} {ow : Nat → List Int} {M : Nat} : ∀ (k s f : Nat) (ok : Bool), s + k = M → f < M → (ok = true → fit f = true) → (bsF fit ow k s f ok).1 < M ∧ ((bsF fit ow k s f ok).2 = true → fit (bsF fit ow k s f ok).1 = true)
  | 0, _, _, _, _, h1, h2 => ⟨h1, h2⟩
  | k + 1, s, f, ok, h0, h1, h2 => by
    unfold bsF
    split
    · rename_i c
      exact bs_fit k (s + 1) s true (by omega) (by omega) (fun _ => c.1)
    · exact bs_fit k (s + 1) f ok (by omega) h1 h2
end Go.Proofs.YtidahkefillmeaaGreatDoor
