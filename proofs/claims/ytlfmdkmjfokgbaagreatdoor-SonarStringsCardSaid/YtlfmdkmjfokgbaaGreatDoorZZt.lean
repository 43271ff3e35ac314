/-
  Strings of numbers as lists of bytes: pieces between signs, numerals, what is joined and parted again.
-/
import Derived.Test.YtlfmdkmjfokgbaaGreatDoorZZs
import Derived.Lib.IndexBytes
import Derived.Lib.IndexLaws
set_option linter.all false
namespace Go.Proofs.YtlfmdkmjfokgbaaGreatDoor.St
open Go Go.Lib
/-! ### Pieces -/
def cutGo (c : UInt8) : List UInt8 → List UInt8 → List (List UInt8)
 | acc, [] => [acc]
 | acc, b :: l => if b = c then acc :: cutGo c [] l else cutGo c (acc ++ [b]) l
def splitL (c : UInt8) (l : List UInt8) : List (List UInt8) := cutGo c [] l
theorem cutGo_none {c : UInt8} : ∀ (l acc : List UInt8), c ∉ l → cutGo c acc l = [acc ++ l]
 | [], acc, _ => by simp [cutGo]
 | b :: l, acc, h => by
  simp only [List.mem_cons, not_or] at h
  rw [cutGo, if_neg (fun e => h.1 e.symm), cutGo_none l _ h.2]; simp
theorem cutGo_at {c : UInt8} : ∀ (p r acc : List UInt8), c ∉ p → cutGo c acc (p ++ c :: r) = (acc ++ p) :: cutGo c [] r
 | [], r, acc, _ => by simp [cutGo]
 | b :: p, r, acc, h => by
  simp only [List.mem_cons, not_or] at h
  rw [List.cons_append, cutGo, if_neg (fun e => h.1 e.symm), cutGo_at p r _ h.2]; simp
theorem not_mem_of {c : UInt8} {l : List UInt8} (h : ∀ k : Nat, l[k]? ≠ some c) : c ∉ l := fun hm => by
 obtain ⟨k, hk⟩ := List.getElem?_of_mem hm
 exact h k hk
theorem splitK_split (c : UInt8) : ∀ (k : Nat) (l : List UInt8), count l [c] = k → splitK [c] 0 k l = splitL c l
 | 0, l, h => by
  rw [count_one] at h
  have : c ∉ l := fun hm => by have := List.count_pos_iff.2 hm; omega
  rw [splitL, cutGo_none l [] this]; rfl
 | k + 1, l, h => by
  have hi := index_one l c
  by_cases hn : indexByte l c = -1
  ·have := not_mem_of (indexByte_none hn)
   rw [count_one, List.count_eq_zero.2 this] at h; omega
  ·have hge := indexByte_ge l c
   obtain ⟨o, ho⟩ : ∃ o : Nat, indexByte l c = o := ⟨(indexByte l c).toNat, by omega⟩
   obtain ⟨h1, h2⟩ := indexByte_some ho
   have hlt : o < l.length := (List.getElem?_eq_some_iff.1 h1).1
   have hsp : l = l.take o ++ c :: l.drop (o + 1) := by
    have := List.getElem?_eq_some_iff.1 h1
    obtain ⟨_, e⟩ := this
    rw [← e, List.getElem_cons_drop, List.take_append_drop]
   have hni : c ∉ l.take o := not_mem_of fun k hk => by
    rcases Nat.lt_or_ge k o with hko | hko
    ·rw [List.getElem?_take_of_lt hko] at hk; exact h2 k hko hk
    ·rw [List.getElem?_eq_none (by simp; omega)] at hk; cases hk
   have hc : count (l.drop (o + 1)) [c] = k := by
    rw [count_one] at h ⊢
    rw [hsp, List.count_append, List.count_eq_zero.2 hni, List.count_cons_self] at h
    omega
   rw [splitK, hi, ho, if_neg (by simp)]
   simp only [Int.toNat_natCast, Nat.add_zero, List.length_cons, List.length_nil, Nat.zero_add]
   rw [splitK_split c k _ hc]
   conv => rhs; rw [hsp]
   rw [splitL, splitL, cutGo_at _ _ _ hni, List.nil_append]
theorem splitL_ne (c : UInt8) (l : List UInt8) : splitL c l ≠ [] := by
 have : ∀ (l acc : List UInt8), cutGo c acc l ≠ [] := fun l => by
  induction l with
  | nil => intro acc h; cases h
  | cons b l ih =>
   intro acc h
   rw [cutGo] at h
   split at h
   ·cases h
   ·exact ih _ h
 exact this l []
theorem splitL_join (c : UInt8) : ∀ (x : List UInt8) (r : List (List UInt8)), c ∉ x → (∀ y ∈ r, c ∉ y) → splitL c (join (x :: r) [c]) = x :: r
 | x, [], h, _ => by rw [join_one, splitL, cutGo_none _ _ h]; simp
 | x, y :: r, h, hr => by
  have ih := splitL_join c y r (hr y (by simp)) fun z hz => hr z (by simp [hz])
  have e : join (x :: y :: r) [c] = x ++ c :: join (y :: r) [c] := by
   rw [join_cons, join_cons]
   simp [joinTail]
  rw [e, splitL, cutGo_at _ _ _ h, List.nil_append]
  rw [splitL] at ih; rw [ih]
/-! ### Numerals -/
def digV : List UInt8 → Int → Option Int
 | [], n => some n
 | b :: l, n => if 48 ≤ b.toNat ∧ b.toNat ≤ 57 then digV l (n * 10 + ((b.toNat : Int) - 48)) else none
def numL (d : Int) (l : List UInt8) : Option Int :=
 let m := l.head? = some 45
 let r := if l.head? = some 45 then l.tail else l
 if r = [] ∨ d < (r.length : Int) ∨ (r.head? = some 48 ∧ 1 < l.length) then none else (digV r 0).map fun n => if m then -n else n
theorem digV_app : ∀ (l : List UInt8) (b : UInt8) (n m : Int), digV l n = some m → 48 ≤ b.toNat ∧ b.toNat ≤ 57 → digV (l ++ [b]) n = some (m * 10 + ((b.toNat : Int) - 48))
 | [], b, n, m, h, hb => by injection h with h; subst h; simp [digV, hb]
 | a :: l, b, n, m, h, hb => by
  rw [digV] at h
  split at h
  ·rename_i ha
   rw [List.cons_append, digV, if_pos ha, digV_app l b _ m h hb]
  ·cases h
theorem ofNat_dig (k : Nat) (h : k < 10) : (UInt8.ofNat (48 + k)).toNat = 48 + k := by
 simp [UInt8.toNat_ofNat']; omega
theorem digV_dec (u : Nat) : digV (decDigits u) 0 = some (u : Int) := by
 induction u using Nat.strongRecOn with
 | _ u ih =>
  rw [decDigits]
  split
  ·rename_i h
   have := ofNat_dig u h
   simp only [digV]
   rw [this, if_pos (by omega)]
   congr 1; omega
  ·rename_i h
   have h1 := ih (u / 10) (by omega)
   have h2 := ofNat_dig (u % 10) (by omega)
   rw [digV_app _ _ _ _ h1 (by omega), h2]
   congr 1; omega
theorem dec_dig (u : Nat) : ∀ b ∈ decDigits u, 48 ≤ b.toNat ∧ b.toNat ≤ 57 := by
 induction u using Nat.strongRecOn with
 | _ u ih =>
  rw [decDigits]
  split
  ·rename_i h
   intro b hb
   have := ofNat_dig u h
   simp only [List.mem_singleton] at hb
   subst hb; omega
  ·rename_i h
   intro b hb
   have h2 := ofNat_dig (u % 10) (by omega)
   rcases List.mem_append.1 hb with hb | hb
   ·exact ih (u / 10) (by omega) b hb
   ·simp only [List.mem_singleton] at hb
    subst hb; omega
theorem dec_ne (u : Nat) : decDigits u ≠ [] := by
 rw [decDigits]; split <;> simp
theorem dec_head (u : Nat) (h : u ≠ 0) : (decDigits u).head? ≠ some 48 := by
 induction u using Nat.strongRecOn with
 | _ u ih =>
  rw [decDigits]
  split
  ·rename_i hu
   have := ofNat_dig u hu
   intro e
   simp only [List.head?_cons, Option.some.injEq] at e
   rw [e] at this
   have : (48 : Nat) = 48 + u := this
   omega
  ·rename_i hu
   have h1 := ih (u / 10) (by omega) (by omega)
   have hne := dec_ne (u / 10)
   cases hd : decDigits (u / 10) with
   | nil => exact absurd hd hne
   | cons a l => rw [hd] at h1; simpa using h1
theorem dec_len {u d : Nat} (hd : 1 ≤ d) (h : u < 10 ^ d) : (decDigits u).length ≤ d := by
 rw [decDigits_length]
 induction d generalizing u with
 | zero => omega
 | succ d ih =>
  by_cases hu : u < 10
  ·rw [nDigits_small hu]; omega
  ·rw [nDigits_big hu]
   by_cases h0 : d = 0
   ·subst h0; simp at h; omega
   ·have := ih (u := u / 10) (by omega) (by rw [Nat.pow_succ] at h; omega)
    omega
theorem numL_itoa {n : Int} {d : Nat} (hd : 1 ≤ d) (h : n.natAbs < 10 ^ d) : numL d (itoa n) = some n := by
 unfold itoa
 split
 ·rename_i hn
  have hne := dec_ne n.natAbs
  have hh := dec_head n.natAbs (by omega)
  have hl := dec_len hd h
  simp only [numL, List.head?_cons, List.tail_cons, if_true]
  rw [if_neg, digV_dec]
  ·simp; omega
  ·rintro (e | e | ⟨e, _⟩)
   ·exact hne e
   ·omega
   ·exact hh e
 ·rename_i hn
  have hne := dec_ne n.toNat
  have hl := dec_len (u := n.toNat) hd (by rw [show n.toNat = n.natAbs by omega]; exact h)
  have hdg := dec_dig n.toNat
  have h45 : (decDigits n.toNat).head? ≠ some 45 := fun e => by
   cases hd : decDigits n.toNat with
   | nil => exact hne hd
   | cons a l =>
    rw [hd] at e; simp only [List.head?_cons, Option.some.injEq] at e
    have := hdg a (by rw [hd]; simp)
    rw [e] at this
    have : 48 ≤ (45 : Nat) := this.1
    omega
  simp only [numL]
  rw [if_neg h45, if_neg, digV_dec]
  ·simp [h45]; omega
  ·rintro (e | e | ⟨e, e2⟩)
   ·exact hne e
   ·omega
   ·by_cases h0 : n.toNat = 0
    ·rw [h0] at e2; simp [decDigits] at e2
    ·exact dec_head _ h0 e
theorem itoa_bytes (n : Int) : ∀ b ∈ itoa n, b.toNat = 45 ∨ (48 ≤ b.toNat ∧ b.toNat ≤ 57) := by
 unfold itoa
 split
 ·intro b hb
  rcases List.mem_cons.1 hb with rfl | hb
  ·exact .inl rfl
  ·exact .inr (dec_dig _ b hb)
 ·intro b hb
  exact .inr (dec_dig _ b hb)
theorem itoa_not {n : Int} {c : UInt8} (h : c.toNat < 45) : c ∉ itoa n := fun hm => by have := itoa_bytes n c hm; omega
theorem itoa_not' {n : Int} {c : UInt8} (h : 57 < c.toNat) : c ∉ itoa n := fun hm => by have := itoa_bytes n c hm; omega
/-! ### Strings as numbers -/
open Go.Proofs.YtlfmdkmjfokgbaaGreatDoor.Cm
def by' (a : Int) : List UInt8 := (strOf a).data.toList
def co (l : List UInt8) : Int := codeS ⟨l.toArray⟩
theorem by_co (l : List UInt8) : by' (co l) = l := by unfold by' co; rw [strOf_code]
theorem co_by (a : Int) : co (by' a) = a := by
 unfold by' co
 rw [show (⟨(strOf a).data.toList.toArray⟩ : ByteArray) = strOf a by simp, code_strOf]
theorem by_inj {a b : Int} (h : by' a = by' b) : a = b := by rw [← co_by a, h, co_by]
theorem by_len (a : Int) : sln a = ((by' a).length : Int) := rfl
theorem by_cat (a b : Int) : by' (scat a b) = by' a ++ by' b := by
 unfold by' scat; rw [strOf_code]; simp [ByteArray.data_append]
theorem by_cut (a i j : Int) : by' (scut a i j) = ((by' a).take j.toNat).drop i.toNat := by
 unfold by' scut; rw [strOf_code, List.drop_take]
 simp [ByteArray.extract, ByteArray.copySlice]
theorem sat_by {a : Int} {k : Nat} (h : k < (by' a).length) : sat a k = (((by' a)[k]'h).toNat : Int) := by
 have hs : k < (strOf a).size := h
 have e : (strOf a)[k]? = some ((by' a)[k]'h) := by
  rw [getElem?_pos (strOf a) k hs]
  congr 1
 unfold sat
 rw [Int.toNat_natCast, e]
theorem pieces_eq {a s : Int} {c : UInt8} (h : by' s = [c]) : pieces a s = (splitL c (by' a)).map co := by
 unfold pieces
 have hs : strOf s = ⟨#[c]⟩ := by
  have : (strOf s).data = #[c] := by rw [← Array.toList_inj]; exact h
  cases e : strOf s with | mk d => rw [e] at this; simp at this; rw [this]
 rw [hs]
 have k := splitB_data ⟨#[c]⟩ 0 (countB (strOf a) ⟨#[c]⟩) (strOf a)
 have e : splitK [c] 0 (countB (strOf a) ⟨#[c]⟩) (strOf a).data.toList = splitL c (by' a) := splitK_split c _ _ rfl
 rw [show (⟨#[c]⟩ : ByteArray).data.toList = [c] from rfl, e] at k
 rw [← k, List.map_map]
 apply List.map_congr_left
 intro x _
 show codeS x = codeS ⟨x.data.toList.toArray⟩
 simp
end Go.Proofs.YtlfmdkmjfokgbaaGreatDoor.St
