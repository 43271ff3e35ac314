/-
  Lines and boxes as strings: lines, boxes, readings and their errors: the program's functions and the reference's say the same.
-/
import Derived.Test.YtlfmdkmjfokgbaaGreatDoorZIa
import Derived.Test.YtlfmdkmjfokgbaaGreatDoorZG1e
import Derived.Test.YtlfmdkmjfokgbaaGreatDoorZZt
set_option linter.all false
namespace Go.Proofs.YtlfmdkmjfokgbaaGreatDoor
open Go Go.RowKit
theorem x_limit (a lo hi : Int) : u_LimitError a lo hi = some (limE a lo hi) := by
 unfold u_LimitError limE
 by_cases h1 : a < lo
 ·rw [if_pos h1, if_pos (.inl h1)]
 ·rw [if_neg h1]
  by_cases h2 : hi < a
  ·rw [if_pos h2, if_pos (.inr h2)]
  ·rw [if_neg h2, if_neg (by omega)]
theorem x_within (n lo hi : Int) : b_Within n lo hi = some (decide (lo ≤ n ∧ n ≤ hi)) := by
 unfold b_Within
 by_cases h1 : lo ≤ n
 ·by_cases h2 : n ≤ hi
  ·simp [h1, h2]
  ·simp [h1, h2]
 ·simp [h1]
theorem x_runF_first : ∀ (l : List Int) (i : Nat), runF (fun _ (e : Int) (_ : Unit) => if e = 0 then (.inr () : Int ⊕ Unit) else .inl e) l i () = if firstE l = 0 then .inr () else .inl (firstE l)
 | [], _ => rfl
 | a :: r, i => by
  unfold runF firstE
  by_cases ha : a = 0
  ·simp only [ha, if_true]; exact x_runF_first r (i + 1)
  ·simp only [ha, if_false]
theorem x_first (fu : Nat) (l : List Int) (h : l.length < fu) (hl : l.length < 4611686018427387904) : u_FirstError fu l = some (firstE l) := by
 have := loop_run l (fun n i _ => u_FirstError_L1 fu l (l.length : Int) n (i : Int)) (fun _ (e : Int) (_ : Unit) => if e = 0 then (.inr () : Int ⊕ Unit) else .inl e) id
  (fun n s => by rw [u_FirstError_L1, if_neg (by omega)]; rfl)
  (fun n i e s he => by
   obtain ⟨h1, h2, h3⟩ := idx he
   rw [u_FirstError_L1, if_pos h1, if_pos h2, if_pos h1, h3, Option.bind_some]
   by_cases h0 : e = 0
   ·simp only [h0, if_true]; rw [wrapS (by omega)]
   ·simp only [h0, if_false]; rfl) fu 0 () (by omega) (by omega)
 unfold u_FirstError
 rw [show ((0 : Nat) : Int) = 0 from rfl] at this
 rw [this, List.drop_zero, x_runF_first, Option.bind_some]
 by_cases h0 : firstE l = 0
 ·simp [h0]
 ·simp [h0]
def fstF {α : Type} (f : α → Int) : List α → Int
 | [] => 0
 | e :: r => if f e = 0 then fstF f r else f e
theorem fb_run {α τ : Type} (l : List α) (L : Nat → Nat → Option τ) (pr : τ → Int) (f : α → Int)
  (hend : ∀ n, ∃ o, L (n + 1) l.length = some o ∧ pr o = 0)
  (hstep : ∀ n i e, l[i]? = some e → (f e = 0 ∧ L (n + 1) i = L n (i + 1)) ∨ (f e ≠ 0 ∧ ∃ o, L (n + 1) i = some o ∧ pr o = f e)) :
  ∀ n i, i ≤ l.length → l.length - i < n → ∃ o, L n i = some o ∧ pr o = fstF f (l.drop i)
 | 0, i, _, h => by omega
 | n + 1, i, hi, h => by
  rcases Nat.lt_or_ge i l.length with h1 | h1
  ·have he : l[i]? = some l[i] := List.getElem?_eq_getElem h1
   rw [List.drop_eq_getElem_cons h1, fstF]
   rcases hstep n i _ he with ⟨c, e⟩ | ⟨c, o, e, p⟩
   ·rw [e, if_pos c]; exact fb_run l L pr f hend hstep n (i + 1) (by omega) (by omega)
   ·rw [if_neg c]; exact ⟨o, e, p⟩
  ·have : i = l.length := by omega
   subst this
   rw [List.drop_of_length_le (Nat.le_refl _)]
   exact hend n
theorem fstF_ok {α : Type} {f : α → Int} : ∀ {l : List α}, fstF f l = 0 → ∀ e ∈ l, f e = 0
 | [], _, e, he => by cases he
 | a :: r, h, e, he => by
  unfold fstF at h
  by_cases c : f a = 0
  ·rw [if_pos c] at h
   rcases List.mem_cons.1 he with rfl | he
   ·exact c
   ·exact fstF_ok h e he
  ·rw [if_neg c] at h; exact absurd h c
/-! ### Lines -/
abbrev Lk := Int × Int × Int
def okL (e : Lk) : Prop := (1 ≤ e.1 ∧ e.1 ≤ 1000) ∧ (-1000 ≤ e.2.1 ∧ e.2.1 ≤ 1000) ∧ (0 ≤ e.2.2 ∧ e.2.2 ≤ 20)
instance (e : Lk) : Decidable (okL e) := by unfold okL; exact inferInstance
/-! ### Boxes -/
/-! ### Readings -/
end Go.Proofs.YtlfmdkmjfokgbaaGreatDoor

namespace Go.Proofs.YtlfmdkmjfokgbaaGreatDoor
open Go Go.RowKit Go.Lib Go.Proofs.YtlfmdkmjfokgbaaGreatDoor.Cm
open St (by' co splitL numL digV)
theorem b_blank : by' (-17) = [32] := St.by_co [32]
theorem b_semi : by' 30 = [59] := St.by_co [59]
theorem b_minus : by' 23 = [45] := St.by_co [45]
theorem b_zero : by' (-25) = [48] := St.by_co [48]
theorem b_empty : by' 0 = [] := St.by_co []
theorem s_split {a0 a1 : Int} {c : UInt8} (h1 : by' a1 = [c]) (h0 : (by' a0).length < 4294967281) : strings_Split a0 a1 = some ((splitL c (by' a0)).map co) := by
 unfold strings_Split
 rw [if_pos ⟨h0, show (by' a1).length = 1 by rw [h1]; rfl⟩, St.pieces_eq h1]
theorem s_join {l : List (List UInt8)} {s : Int} {c : UInt8} (hs : by' s = [c]) (h1 : l.length ≤ 140737488355328) (h2 : (join l [c]).length ≤ 140737488355328) : strings_Join (l.map co) s = some (co (join l [c])) := by
 have e : joinS (l.map co) s = join l [c] := by
  unfold joinS
  rw [List.map_map, show (strOf s).data.toList = [c] from hs]
  congr 1
  conv => rhs; rw [← List.map_id l]
  apply List.map_congr_left
  intro x _
  exact St.by_co x
 unfold strings_Join
 rw [if_pos ⟨by rw [List.length_map]; exact h1, by rw [e]; exact h2⟩, e]; rfl
/-! ### Digits -/
theorem dig_run (bs : List UInt8) (L : Nat → Int → Int → Option (Unit ⊕ Int)) (hend : ∀ n v, L (n + 1) v bs.length = some (.inr v))
  (hbad : ∀ n v (i : Nat) b, bs[i]? = some b → ¬(48 ≤ b.toNat ∧ b.toNat ≤ 57) → L (n + 1) v i = some (.inl ()))
  (hgo : ∀ n v (i : Nat) b, bs[i]? = some b → 48 ≤ b.toNat ∧ b.toNat ≤ 57 → 0 ≤ v → v ≤ 100000000000000000 → L (n + 1) v i = L n (v * 10 + ((b.toNat : Int) - 48)) ((i + 1 : Nat) : Int)) :
  ∀ (n : Nat) (v : Int) (i : Nat), i ≤ bs.length → bs.length - i < n → 0 ≤ v → (v + 1) * 10 ^ (bs.length - i) ≤ 100000000000000000 → L n v i = some (match digV (bs.drop i) v with | none => .inl () | some m => .inr m)
 | 0, v, i, _, h, _, _ => by omega
 | n + 1, v, i, hi, h, hv, hb => by
  rcases Nat.lt_or_ge i bs.length with h1 | h1
  ·have he : bs[i]? = some bs[i] := List.getElem?_eq_getElem h1
   have hp : (1 : Int) ≤ 10 ^ (bs.length - i) := by
    have : (0 : Int) < 10 ^ (bs.length - i) := Int.pow_pos (by omega)
    omega
   have hv2 : v ≤ 100000000000000000 := by
    have := Int.mul_le_mul_of_nonneg_left hp (show 0 ≤ v + 1 by omega); omega
   rw [List.drop_eq_getElem_cons h1, digV]
   by_cases hd : 48 ≤ bs[i].toNat ∧ bs[i].toNat ≤ 57
   ·rw [hgo n v i _ he hd hv hv2, if_pos hd]
    refine dig_run bs L hend hbad hgo n _ (i + 1) (by omega) (by omega) (by omega) ?_
    have e : bs.length - i = (bs.length - (i + 1)) + 1 := by omega
    rw [e, Int.pow_succ] at hb
    have hp2 : (0 : Int) ≤ 10 ^ (bs.length - (i + 1)) := Int.le_of_lt (Int.pow_pos (by omega))
    have := Int.mul_le_mul_of_nonneg_right (show v * 10 + ((bs[i].toNat : Int) - 48) + 1 ≤ (v + 1) * 10 by omega) hp2
    rw [Int.mul_assoc, Int.mul_comm 10] at this
    omega
   ·rw [hbad n v i _ he hd, if_neg hd]
  ·have : i = bs.length := by omega
   subst this
   rw [hend, List.drop_of_length_le (Nat.le_refl _), digV]
theorem x_digit (c : Int) : u_isDigit c = some (decide (48 ≤ c ∧ c ≤ 57)) := by
 unfold u_isDigit
 by_cases h1 : (48 : Int) ≤ c
 ·by_cases h2 : c ≤ 57
  ·simp [h1, h2]
  ·simp [h1, h2]
 ·simp [h1]
theorem s_at {a : Int} {i : Nat} {b : UInt8} (h : (by' a)[i]? = some b) : sat a i = (b.toNat : Int) ∧ (i : Int) < sln a ∧ (0 : Int) ≤ i := by
 obtain ⟨h1, h2⟩ := List.getElem?_eq_some_iff.1 h
 refine ⟨by rw [St.sat_by h1, h2], by rw [St.by_len]; omega, by omega⟩
theorem wu8 {c : Nat} (h : 48 ≤ c ∧ c ≤ 57) : IntKind.wrap .i64 (IntKind.wrap .u8 ((c : Int) - 48)) = (c : Int) - 48 := by
 have : IntKind.wrap .u8 ((c : Int) - 48) = (c : Int) - 48 := by unfold IntKind.wrap; simp [IntKind.bits, IntKind.signed]; omega
 rw [this, wrapB (by omega) (by omega)]
theorem x_num1 (fu : Nat) (a : Int) {n : Nat} (hn : (by' a).length < n) (hl : (by' a).length ≤ 15) : u_numberIn_L1 fu a (sln a) n 0 0 = some (match digV (by' a) 0 with | none => .inl () | some m => .inr m) := by
 have := dig_run (by' a) (fun n v i => u_numberIn_L1 fu a (sln a) n v i) (fun n v => by rw [u_numberIn_L1, St.by_len, if_neg (by omega)])
  (fun n v i b hb hd => by
   obtain ⟨h1, h2, h3⟩ := s_at hb
   rw [u_numberIn_L1, if_pos h2, if_pos h3, if_pos h2, h1, x_digit, Option.bind_some, if_neg (by simp; omega)])
  (fun n v i b hb hd hv hv2 => by
   obtain ⟨h1, h2, h3⟩ := s_at hb
   have hi : i < 4611686018427387904 := by rw [St.by_len] at h2; omega
   rw [u_numberIn_L1, if_pos h2, if_pos h3, if_pos h2, h1, x_digit, Option.bind_some, if_pos (by simp; omega), wu8 hd, wrapB (x := v * 10) (by omega) (by omega), wrapB (by omega) (by omega), wrapS hi])
  n 0 0 (Nat.zero_le _) (by omega) (Int.le_refl _) (by
   have : ((10 : Int) ^ ((by' a).length - 0)) ≤ 10 ^ 15 := by
    have := Nat.pow_le_pow_right (show 0 < 10 by omega) (show (by' a).length - 0 ≤ 15 by omega)
    exact_mod_cast this
   omega)
 rw [List.drop_zero] at this
 exact this
theorem x_num2 (fu : Nat) (a : Int) {n : Nat} (hn : (by' a).length < n) (hl : (by' a).length ≤ 15) : u_numberIn_L2 fu a (sln a) n 0 0 = some (match digV (by' a) 0 with | none => .inl () | some m => .inr m) := by
 have := dig_run (by' a) (fun n v i => u_numberIn_L2 fu a (sln a) n v i) (fun n v => by rw [u_numberIn_L2, St.by_len, if_neg (by omega)])
  (fun n v i b hb hd => by
   obtain ⟨h1, h2, h3⟩ := s_at hb
   rw [u_numberIn_L2, if_pos h2, if_pos h3, if_pos h2, h1, x_digit, Option.bind_some, if_neg (by simp; omega)])
  (fun n v i b hb hd hv hv2 => by
   obtain ⟨h1, h2, h3⟩ := s_at hb
   have hi : i < 4611686018427387904 := by rw [St.by_len] at h2; omega
   rw [u_numberIn_L2, if_pos h2, if_pos h3, if_pos h2, h1, x_digit, Option.bind_some, if_pos (by simp; omega), wu8 hd, wrapB (x := v * 10) (by omega) (by omega), wrapB (by omega) (by omega), wrapS hi])
  n 0 0 (Nat.zero_le _) (by omega) (Int.le_refl _) (by
   have : ((10 : Int) ^ ((by' a).length - 0)) ≤ 10 ^ 15 := by
    have := Nat.pow_le_pow_right (show 0 < 10 by omega) (show (by' a).length - 0 ≤ 15 by omega)
    exact_mod_cast this
   omega)
 rw [List.drop_zero] at this
 exact this
theorem digV_rng : ∀ (l : List UInt8) (v m : Int), 0 ≤ v → digV l v = some m → 0 ≤ m ∧ m < (v + 1) * 10 ^ l.length
 | [], v, m, hv, h => by injection h with h; subst h; simp; omega
 | b :: l, v, m, hv, h => by
  rw [digV] at h
  split at h
  ·rename_i hb
   obtain ⟨h1, h2⟩ := digV_rng l _ m (by omega) h
   refine ⟨h1, Int.lt_of_lt_of_le h2 ?_⟩
   rw [List.length_cons, Int.pow_succ]
   have hp2 : (0 : Int) ≤ 10 ^ l.length := Int.le_of_lt (Int.pow_pos (by omega))
   have := Int.mul_le_mul_of_nonneg_right (show v * 10 + ((b.toNat : Int) - 48) + 1 ≤ (v + 1) * 10 by omega) hp2
   rw [Int.mul_assoc, Int.mul_comm 10] at this
   exact this
  ·cases h
theorem digV_small {l : List UInt8} {m : Int} (hl : l.length ≤ 15) (h : digV l 0 = some m) : 0 ≤ m ∧ m < 1000000000000000 := by
 obtain ⟨h1, h2⟩ := digV_rng l 0 m (Int.le_refl _) h
 refine ⟨h1, Int.lt_of_lt_of_le h2 ?_⟩
 have : ((10 : Int) ^ l.length) ≤ 10 ^ 15 := by
  have := Nat.pow_le_pow_right (show 0 < 10 by omega) hl
  exact_mod_cast this
 omega
theorem cut_minus (a : Int) : by' (cutPre a 23).1 = (if (by' a).head? = some 45 then (by' a).tail else by' a) ∧ ((cutPre a 23).2 = true ↔ (by' a).head? = some 45) := by
 have e : (strOf 23).data.toList = [45] := b_minus
 have hh : hasPrefix (by' a) [45] = true ↔ (by' a).head? = some 45 := by
  unfold hasPrefix
  cases by' a with
  | nil => simp
  | cons b l => simp [List.isPrefixOf]; exact eq_comm
 unfold cutPre
 rw [e]
 show by' (co (trimPrefix (by' a) [45])) = _ ∧ (hasPrefix (by' a) [45] = true ↔ _)
 refine ⟨?_, hh⟩
 rw [St.by_co]
 unfold trimPrefix
 by_cases h : (by' a).head? = some 45
 ·rw [if_pos (hh.2 h), if_pos h]; simp
 ·rw [if_neg (fun c => h (hh.1 c)), if_neg h]
def rdN : Option Int → Int × Bool
 | none => (0, false)
 | some n => (n, true)
theorem x_numberIn {fu : Nat} (hf : 20 ≤ fu) (a : Int) {d : Int} (hd : 1 ≤ d ∧ d ≤ 15) : u_numberIn fu a d = some (rdN (numL d (by' a))) := by
 obtain ⟨c1, c2⟩ := cut_minus a
 unfold u_numberIn
 rw [show strings_CutPrefix a 23 = some (cutPre a 23) from rfl, Option.bind_some]
 generalize cutPre a 23 = r at c1 c2
 obtain ⟨r1, r2⟩ := r
 simp only at c1 c2 ⊢
 have hlen : sln r1 = ((by' r1).length : Int) := rfl
 by_cases hm : (by' a).head? = some 45
 ·rw [if_pos hm] at c1
  have ht : (by' a).length = (by' r1).length + 1 := by
   rw [c1]
   cases hb : by' a with
   | nil => rw [hb] at hm; cases hm
   | cons b l => simp
  rw [if_pos (c2.2 hm)]
  unfold numL
  simp only [if_pos hm, ← c1]
  by_cases h0 : r1 = -25
  ·have e : by' r1 = [48] := by rw [h0]; exact b_zero
   rw [if_pos h0, if_pos (.inr (.inr ⟨by rw [e]; rfl, by rw [ht, e]; decide⟩))]; rfl
  ·rw [if_neg h0]
   by_cases h1 : r1 = 0
   ·have e : by' r1 = [] := by rw [h1]; exact b_empty
    rw [if_pos h1, if_pos (.inl e)]; rfl
   ·have e : by' r1 ≠ [] := fun e => h1 (St.by_inj (by rw [e, b_empty]))
    rw [if_neg h1]
    by_cases h2 : d < sln r1
    ·rw [if_pos h2, if_pos (.inr (.inl h2))]; rfl
    ·rw [if_neg h2]
     have hl15 : (by' r1).length ≤ 15 := by omega
     have hpos : 0 < (by' r1).length := List.length_pos_iff.2 e
     by_cases h3 : (1 : Int) < sln r1
     ·obtain ⟨b, hb⟩ : ∃ b, (by' r1)[0]? = some b := ⟨_, List.getElem?_eq_getElem hpos⟩
      obtain ⟨g1, _, _⟩ := s_at hb
      rw [if_pos h3, if_pos (by omega), show sat r1 0 = (b.toNat : Int) from g1]
      have hhd : (by' r1).head? = some b := by rw [List.head?_eq_getElem?]; exact hb
      by_cases h4 : (b.toNat : Int) = 48
      ·have : b = 48 := by
        apply UInt8.toNat_inj.1; show b.toNat = 48; omega
       rw [if_pos h4, if_pos (.inr (.inr ⟨by rw [hhd, this], by omega⟩))]; rfl
      ·rw [if_neg h4, x_num1 fu r1 (by omega) hl15, if_neg]
       ·cases hv : digV (by' r1) 0 with
        | none => rfl
        | some m =>
         have := digV_small hl15 hv
         simp only [Option.bind_some, Option.map_some, hm, if_true, rdN]
         rw [wrapB (by omega) (by omega)]; simp
       ·rintro (c | c | ⟨c, _⟩)
        ·exact e c
        ·exact h2 c
        ·rw [hhd] at c; injection c with c; rw [c] at h4; exact h4 rfl
     ·have h31 : (by' r1).length = 1 := by omega
      rw [if_neg h3, x_num1 fu r1 (by omega) hl15]
      have hne : by' r1 ≠ [48] := fun c => h0 (St.by_inj (by rw [c, b_zero]))
      rw [if_neg]
      ·cases hv : digV (by' r1) 0 with
       | none => rfl
       | some m =>
        have := digV_small hl15 hv
        simp only [Option.bind_some, Option.map_some, hm, if_true, rdN]
        rw [wrapB (by omega) (by omega)]; simp
      ·rintro (c | c | ⟨c, _⟩)
       ·exact e c
       ·exact h2 c
       ·cases hb : by' r1 with
        | nil => exact e hb
        | cons b l =>
         rw [hb] at c h31 hne
         have : l = [] := by simpa using h31
         subst this
         simp only [List.head?_cons, Option.some.injEq] at c
         exact hne (by rw [c])
 ·rw [if_neg hm] at c1
  have hr : r1 = a := St.by_inj c1
  subst hr
  rw [if_neg (fun c => hm (c2.1 c))]
  unfold numL
  simp only [if_neg hm]
  by_cases h1 : r1 = 0
  ·have e : by' r1 = [] := by rw [h1]; exact b_empty
   rw [if_pos h1, if_pos (.inl e)]; rfl
  ·have e : by' r1 ≠ [] := fun e => h1 (St.by_inj (by rw [e, b_empty]))
   rw [if_neg h1]
   by_cases h2 : d < sln r1
   ·rw [if_pos h2, if_pos (.inr (.inl h2))]; rfl
   ·rw [if_neg h2]
    have hl15 : (by' r1).length ≤ 15 := by omega
    have hpos : 0 < (by' r1).length := List.length_pos_iff.2 e
    by_cases h3 : (1 : Int) < sln r1
    ·obtain ⟨b, hb⟩ : ∃ b, (by' r1)[0]? = some b := ⟨_, List.getElem?_eq_getElem hpos⟩
     obtain ⟨g1, _, _⟩ := s_at hb
     rw [if_pos h3, if_pos (by omega), show sat r1 0 = (b.toNat : Int) from g1]
     have hhd : (by' r1).head? = some b := by rw [List.head?_eq_getElem?]; exact hb
     by_cases h4 : (b.toNat : Int) = 48
     ·have : b = 48 := by
       apply UInt8.toNat_inj.1; show b.toNat = 48; omega
      rw [if_pos h4, if_pos (.inr (.inr ⟨by rw [hhd, this], by omega⟩))]; rfl
     ·rw [if_neg h4, x_num2 fu r1 (by omega) hl15, if_neg]
      ·cases hv : digV (by' r1) 0 with
       | none => rfl
       | some m => simp only [Option.bind_some, Option.map_some, hm, if_false, rdN]
      ·rintro (c | c | ⟨c, _⟩)
       ·exact e c
       ·exact h2 c
       ·rw [hhd] at c; injection c with c; rw [c] at h4; exact h4 rfl
    ·rw [if_neg h3, x_num2 fu r1 (by omega) hl15]
     rw [if_neg]
     ·cases hv : digV (by' r1) 0 with
      | none => rfl
      | some m => simp only [Option.bind_some, Option.map_some, hm, if_false, rdN]
     ·rintro (c | c | ⟨_, c⟩)
      ·exact e c
      ·exact h2 c
      ·omega
end Go.Proofs.YtlfmdkmjfokgbaaGreatDoor

namespace Go.Proofs.YtlfmdkmjfokgbaaGreatDoor
open Go Go.RowKit Go.Lib Go.Proofs.YtlfmdkmjfokgbaaGreatDoor.Cm
open St (by' co splitL numL digV)
theorem splitL_len (c : UInt8) (l : List UInt8) : (splitL c l).length ≤ l.length + 1 := by
 have : ∀ (l acc : List UInt8), (St.cutGo c acc l).length ≤ l.length + 1 := fun l => by
  induction l with
  | nil => intro acc; simp [St.cutGo]
  | cons b l ih =>
   intro acc
   rw [St.cutGo]
   split
   ·have := ih []; simp only [List.length_cons]; omega
   ·have := ih (acc ++ [b]); simp only [List.length_cons]; omega
 exact this l []
theorem digV_ge : ∀ (l : List UInt8) (v m : Int), 0 ≤ v → digV l v = some m → v ≤ m
 | [], v, m, _, h => by injection h with h; omega
 | b :: l, v, m, hv, h => by
  rw [digV] at h
  split at h
  ·have := digV_ge l _ m (by omega) h; omega
  ·cases h
theorem numL_neg {d n : Int} {w : List UInt8} (h : numL d w = some n) : n < 0 ↔ w.head? = some 45 := by
 unfold numL at h
 simp only at h
 by_cases hm : w.head? = some 45
 ·simp only [hm, if_true] at h
  split at h
  ·cases h
  ·rename_i hc
   rw [Option.map_eq_some_iff] at h
   obtain ⟨m, h1, h2⟩ := h
   have hpos : 0 < m := by
    cases hw : w with
    | nil => rw [hw] at hm; cases hm
    | cons a r =>
     rw [hw] at h1 hc
     simp only [List.tail_cons] at h1 hc
     cases hr : r with
     | nil => exact absurd (.inl hr) hc
     | cons b r' =>
      rw [hr] at h1 hc
      have hb : b ≠ 48 := fun e => hc (.inr (.inr ⟨by rw [e]; rfl, by simp⟩))
      rw [digV] at h1
      split at h1
      ·rename_i hd
       have hb2 : b.toNat ≠ 48 := fun e => hb (UInt8.toNat_inj.1 e)
       have := digV_ge _ _ m (by omega) h1
       omega
      ·cases h1
   exact ⟨fun _ => hm, fun _ => by omega⟩
 ·simp only [hm, if_false] at h
  split at h
  ·cases h
  ·rw [Option.map_eq_some_iff] at h
   obtain ⟨m, h1, h2⟩ := h
   have h0 := digV_ge _ 0 m (Int.le_refl _) h1
   exact ⟨fun c => by omega, fun c => absurd c hm⟩
def numsU (d : Int) (u : List Int) : Nat → List (List UInt8) → Option (List Int)
 | _, [] => some []
 | i, w :: r => match numL d w with
  | none => none
  | some n => if n < 0 ∧ (i : Int) ∈ u then none else (numsU d u (i + 1) r).map (n :: ·)
def rdL : Option (List Int) → List Int × Bool
 | none => ([], false)
 | some l => (l, true)
theorem x_index {fu : Nat} {u : List Int} (hu : u.length < fu) (hl : u.length < 1000) (x : Int) : ∃ r, slices_Index_int_int fu u x = some r ∧ (0 ≤ r ↔ x ∈ u) := by
 have : ∀ (n i : Nat), i ≤ u.length → u.length - i < n → ∃ o, slices_Index_int_int_L1 fu u x (u.length : Int) n (i : Int) = some o ∧ ((∃ k : Int, 0 ≤ k ∧ o = .inl k ∧ x ∈ u.drop i) ∨ (o = .inr () ∧ x ∉ u.drop i)) := by
  intro n
  induction n with
  | zero => intro i _ h; omega
  | succ n ih =>
   intro i hi h
   rcases Nat.lt_or_ge i u.length with h1 | h1
   ·obtain ⟨g1, g2, g3⟩ := idx (List.getElem?_eq_getElem h1)
    rw [slices_Index_int_int_L1, if_pos g1, if_pos g2, if_pos g1, g3, Option.bind_some, List.drop_eq_getElem_cons h1]
    by_cases he : x = u[i]
    ·rw [if_pos he]; exact ⟨_, rfl, .inl ⟨_, g2, rfl, by rw [he]; exact List.mem_cons_self ..⟩⟩
    ·rw [if_neg he, wrapS (by omega)]
     obtain ⟨o, e1, e2⟩ := ih (i + 1) (by omega) (by omega)
     refine ⟨o, e1, ?_⟩
     rcases e2 with ⟨k, k1, k2, k3⟩ | ⟨k1, k2⟩
     ·exact .inl ⟨k, k1, k2, List.mem_cons_of_mem _ k3⟩
     ·exact .inr ⟨k1, fun hm => (List.mem_cons.1 hm).elim he k2⟩
   ·have : i = u.length := by omega
    subst this
    rw [slices_Index_int_int_L1, if_neg (by omega)]
    exact ⟨_, rfl, .inr ⟨rfl, by simp⟩⟩
 obtain ⟨o, e1, e2⟩ := this fu 0 (Nat.zero_le _) (by omega)
 unfold slices_Index_int_int
 rw [show ((0 : Nat) : Int) = 0 from rfl] at e1
 rw [e1, Option.bind_some]
 rw [List.drop_zero] at e2
 rcases e2 with ⟨k, k1, rfl, k3⟩ | ⟨rfl, k2⟩
 ·exact ⟨k, rfl, fun _ => k3, fun _ => k1⟩
 ·exact ⟨-1, rfl, fun c => by omega, fun c => absurd c k2⟩
theorem x_contains {fu : Nat} {u : List Int} (hu : u.length < fu) (hl : u.length < 1000) (x : Int) : slices_Contains_int_int fu u x = some (decide (x ∈ u)) := by
 obtain ⟨r, e1, e2⟩ := x_index hu hl x
 unfold slices_Contains_int_int
 rw [e1, Option.bind_some]
 by_cases h : 0 ≤ r
 ·rw [if_pos h, decide_eq_true (e2.1 h)]
 ·rw [if_neg h, decide_eq_false (fun c => h (e2.2 c))]
theorem head_at {a : Int} {b : UInt8} (h : (by' a).head? = some b) : sat a 0 = (b.toNat : Int) ∧ (0 : Int) < sln a := by
 rw [List.head?_eq_getElem?] at h
 obtain ⟨h1, h2, _⟩ := s_at h
 exact ⟨h1, h2⟩
theorem x_numsL {fu : Nat} (hf : 100 ≤ fu) {u : List Int} (hu : u.length < 50) {d : Int} (hd : 1 ≤ d ∧ d ≤ 15) (ws : List Int) (hw : ws.length < 70000) : ∀ (n : Nat) (v : List Int) (i : Nat), i ≤ ws.length → v.length = ws.length → ws.length - i < n →
  u_NumbersIn_L1 fu u d ws (ws.length : Int) n v (i : Int) = some (match numsU d u i ((ws.map by').drop i) with | none => .inl () | some l => .inr (v.take i ++ l))
 | 0, v, i, _, _, h => by omega
 | n + 1, v, i, hi, hv, h => by
  rcases Nat.lt_or_ge i ws.length with h1 | h1
  ·have he : ws[i]? = some ws[i] := List.getElem?_eq_getElem h1
   obtain ⟨g1, g2, g3⟩ := idx he
   have hvi : v[i]? = some (v[i]'(by omega)) := List.getElem?_eq_getElem (by omega)
   obtain ⟨k1, k2, k3⟩ := idx hvi
   have hdr : (ws.map by').drop i = by' ws[i] :: (ws.map by').drop (i + 1) := by
    rw [List.drop_eq_getElem_cons (by rw [List.length_map]; exact h1), List.getElem_map]
   rw [u_NumbersIn_L1, if_pos g1, if_pos g2, if_pos g1, g3, Option.bind_some, x_numberIn (by omega) _ hd, Option.bind_some, hdr, numsU]
   cases hnum : numL d (by' ws[i]) with
   | none => rfl
   | some m =>
    simp only [rdN, if_true]
    have hne : by' ws[i] ≠ [] := fun e => by rw [e] at hnum; simp [numL] at hnum
    obtain ⟨b, hb⟩ : ∃ b, (by' ws[i]).head? = some b := by
     cases hc : by' ws[i] with
     | nil => exact absurd hc hne
     | cons b l => exact ⟨b, rfl⟩
    obtain ⟨a1, a2⟩ := head_at hb
    have hneg := numL_neg hnum
    rw [hb] at hneg
    have go : u_NumbersIn_L1 fu u d ws (ws.length : Int) n (v.set (0 + ((i : Int)).toNat) m) (IntKind.wrap .i64 ((i : Int) + 1)) = some (match (numsU d u (i + 1) ((ws.map by').drop (i + 1))).map (m :: ·) with | none => .inl () | some l => .inr (v.take i ++ l)) := by
     rw [wrapS (by omega), Int.toNat_natCast, Nat.zero_add, x_numsL hf hu hd ws hw n _ (i + 1) (by omega) (by rw [List.length_set]; exact hv) (by omega)]
     cases numsU d u (i + 1) ((ws.map by').drop (i + 1)) with
     | none => rfl
     | some l =>
      simp only [Option.map_some]
      congr 2
      rw [List.take_succ, List.take_set_of_le (Nat.le_refl i), List.getElem?_set_self (by omega)]
      simp
    rw [if_pos a2, a1]
    by_cases h45 : (b.toNat : Int) = 45
    ·have hb45 : b = 45 := by apply UInt8.toNat_inj.1; show b.toNat = 45; omega
     have hm0 : m < 0 := hneg.2 (by rw [hb45])
     rw [if_pos h45, x_contains (by omega) (by omega), Option.bind_some]
     by_cases hin : (i : Int) ∈ u
     ·rw [if_pos (by simpa using hin), if_pos ⟨hm0, hin⟩]
     ·rw [if_neg (by simpa using hin), if_pos k1, k3, Option.bind_some, go, if_neg (fun c => hin c.2)]
    ·have hm0 : ¬ m < 0 := fun c => by
      have := hneg.1 c
      injection this with this
      rw [this] at h45; exact h45 rfl
     rw [if_neg h45, if_pos k1, k3, Option.bind_some, go, if_neg (fun c => hm0 c.1)]
  ·have : i = ws.length := by omega
   subst this
   rw [u_NumbersIn_L1, if_neg (by omega), List.drop_of_length_le (by simp), numsU]
   simp only [List.append_nil]
   rw [List.take_of_length_le (by omega)]
theorem map_by_co (l : List (List UInt8)) : (l.map co).map by' = l := by
 rw [List.map_map]
 conv => rhs; rw [← List.map_id l]
 apply List.map_congr_left
 intro x _
 exact St.by_co x
theorem x_numbersIn {fu : Nat} (hf : 100000 ≤ fu) {u : List Int} (hu : u.length < 50) {d : Int} (hd : 1 ≤ d ∧ d ≤ 15) {a : Int} (ha : (by' a).length < 65000) : u_NumbersIn fu a d u = some (rdL (numsU d u 0 (splitL 32 (by' a)))) := by
 have hlen := splitL_len 32 (by' a)
 unfold u_NumbersIn
 rw [s_split b_blank (by omega), Option.bind_some, if_pos (by omega), if_pos (by rw [List.length_map]; omega), Int.toNat_natCast]
 have := x_numsL (fu := fu) (by omega) hu hd ((splitL 32 (by' a)).map co) (by rw [List.length_map]; omega) fu (List.replicate ((splitL 32 (by' a)).map co).length 0) 0 (Nat.zero_le _) (by simp) (by rw [List.length_map]; omega)
 rw [show ((0 : Nat) : Int) = 0 from rfl, map_by_co, List.drop_zero] at this
 rw [this, Option.bind_some]
 cases numsU d u 0 (splitL 32 (by' a)) <;> rfl
/-! ### The document -/
theorem z_cutL (fu : Nat) (a : Int) (c : UInt8) (hl : (by' a).length < 65000) : ∀ (n : Nat) (o : List Int) (f i : Nat), i ≤ (by' a).length → f ≤ i → o.length ≤ i → (by' a).length - i < n →
  ∃ (o' : List Int) (f' : Nat), b_Cut_L1 fu a (c.toNat : Int) n o (f : Int) (i : Int) = some (o', (f' : Int)) ∧ f' ≤ (by' a).length ∧ o'.length ≤ (by' a).length ∧ o' ++ [co ((by' a).drop f')] = o ++ (St.cutGo c (((by' a).take i).drop f) ((by' a).drop i)).map co
 | 0, o, f, i, _, _, _, h => by omega
 | n + 1, o, f, i, hi, hf, ho, h => by
  have hsl : sln a = ((by' a).length : Int) := rfl
  rcases Nat.lt_or_ge i (by' a).length with h1 | h1
  ·have he : (by' a)[i]? = some (by' a)[i] := List.getElem?_eq_getElem h1
   obtain ⟨g1, g2, g3⟩ := s_at he
   rw [b_Cut_L1, if_pos g2, if_pos g3, g1, List.drop_eq_getElem_cons h1, St.cutGo]
   by_cases hc : (by' a)[i] = c
   ·rw [if_pos (by rw [hc]), if_pos (by omega), if_pos (by omega), if_pos (by omega), if_pos hc, wrapS (by omega)]
    obtain ⟨o', f', e1, e2, e3, e4⟩ := z_cutL fu a c hl n (o ++ [scut a (f : Int) (i : Int)]) (i + 1) (i + 1) (by omega) (Nat.le_refl _) (by rw [List.length_append, List.length_singleton]; omega) (by omega)
    refine ⟨o', f', e1, e2, e3, ?_⟩
    have hs : scut a (f : Int) (i : Int) = co (((by' a).take i).drop f) := St.by_inj (by rw [St.by_cut, St.by_co, Int.toNat_natCast, Int.toNat_natCast])
    rw [e4, hs, List.drop_of_length_le (by rw [List.length_take]; omega : ((by' a).take (i + 1)).length ≤ i + 1)]
    simp
   ·rw [if_neg (fun e => hc (UInt8.toNat_inj.1 (by omega))), if_neg hc, wrapS (by omega)]
    obtain ⟨o', f', e1, e2, e3, e4⟩ := z_cutL fu a c hl n o f (i + 1) (by omega) (by omega) (by omega) (by omega)
    refine ⟨o', f', e1, e2, e3, ?_⟩
    rw [e4, List.take_succ, he, Option.toList_some, List.drop_append_of_le_length (by rw [List.length_take]; omega)]
  ·have : i = (by' a).length := by omega
   subst this
   rw [b_Cut_L1, hsl, if_neg (by omega)]
   refine ⟨o, f, rfl, hf, ho, ?_⟩
   rw [List.drop_of_length_le (Nat.le_refl _), List.take_of_length_le (Nat.le_refl _)]
   rfl
theorem z_cut {fu : Nat} (hf : 100000 ≤ fu) {a : Int} (c : UInt8) (hl : (by' a).length < 65000) : b_Cut fu a (c.toNat : Int) = some ((splitL c (by' a)).map co) := by
 obtain ⟨o', f', e1, e2, e3, e4⟩ := z_cutL fu a c hl fu [] 0 0 (Nat.zero_le _) (Nat.le_refl _) (Nat.le_refl _) (by omega)
 have hsl : sln a = ((by' a).length : Int) := rfl
 unfold b_Cut
 rw [show ((0 : Nat) : Int) = 0 from rfl] at e1
 rw [e1, Option.bind_some, if_pos (by simp), if_pos (by simp only; omega), if_pos (by simp only; omega)]
 have hs : scut a (f' : Int) (sln a) = co ((by' a).drop f') := St.by_inj (by rw [St.by_cut, St.by_co, Int.toNat_natCast, hsl, Int.toNat_natCast, List.take_of_length_le (Nat.le_refl _)])
 simp only [hs, e4]
 simp [splitL]
theorem z_num1 (fu : Nat) (a : Int) {n : Nat} (hn : (by' a).length < n) (h1 : 1 ≤ (by' a).length) (hl : (by' a).length ≤ 16) : b_Number_L1 fu a n 0 1 = some (match digV (by' a).tail 0 with | none => .inl () | some m => .inr m) := by
 have := dig_run (by' a) (fun n v i => b_Number_L1 fu a n v i) (fun n v => by rw [b_Number_L1, St.by_len, if_neg (by omega)])
  (fun n v i b hb hd => by
   obtain ⟨h1, h2, h3⟩ := s_at hb
   rw [b_Number_L1, if_pos h2, if_pos h3, h1]
   by_cases h4 : (b.toNat : Int) < 48
   ·rw [if_pos h4]
   ·rw [if_neg h4, if_pos (by omega)])
  (fun n v i b hb hd hv hv2 => by
   obtain ⟨h1, h2, h3⟩ := s_at hb
   have hi : i < 4611686018427387904 := by rw [St.by_len] at h2; omega
   rw [b_Number_L1, if_pos h2, if_pos h3, h1, if_neg (by omega), if_neg (by omega), wu8 hd, Int.mul_comm, wrapB (x := v * 10) (by omega) (by omega), wrapB (by omega) (by omega), wrapS hi])
  n 0 1 h1 (by omega) (Int.le_refl _) (by
   have : ((10 : Int) ^ ((by' a).length - 1)) ≤ 10 ^ 15 := by
    have := Nat.pow_le_pow_right (show 0 < 10 by omega) (show (by' a).length - 1 ≤ 15 by omega)
    exact_mod_cast this
   omega)
 rw [List.drop_one] at this
 exact this
theorem z_num2 (fu : Nat) (a : Int) {n : Nat} (hn : (by' a).length < n) (hl : (by' a).length ≤ 15) : b_Number_L2 fu a n 0 0 = some (match digV (by' a) 0 with | none => .inl () | some m => .inr m) := by
 have := dig_run (by' a) (fun n v i => b_Number_L2 fu a n v i) (fun n v => by rw [b_Number_L2, St.by_len, if_neg (by omega)])
  (fun n v i b hb hd => by
   obtain ⟨h1, h2, h3⟩ := s_at hb
   rw [b_Number_L2, if_pos h2, if_pos h3, h1]
   by_cases h4 : (b.toNat : Int) < 48
   ·rw [if_pos h4]
   ·rw [if_neg h4, if_pos (by omega)])
  (fun n v i b hb hd hv hv2 => by
   obtain ⟨h1, h2, h3⟩ := s_at hb
   have hi : i < 4611686018427387904 := by rw [St.by_len] at h2; omega
   rw [b_Number_L2, if_pos h2, if_pos h3, h1, if_neg (by omega), if_neg (by omega), wu8 hd, Int.mul_comm, wrapB (x := v * 10) (by omega) (by omega), wrapB (by omega) (by omega), wrapS hi])
  n 0 0 (Nat.zero_le _) (by omega) (Int.le_refl _) (by
   have : ((10 : Int) ^ ((by' a).length - 0)) ≤ 10 ^ 15 := by
    have := Nat.pow_le_pow_right (show 0 < 10 by omega) (show (by' a).length - 0 ≤ 15 by omega)
    exact_mod_cast this
   omega)
 rw [List.drop_zero] at this
 exact this
theorem z_number {fu : Nat} (hf : 20 ≤ fu) (a : Int) {d : Int} (hd : 1 ≤ d ∧ d ≤ 15) (hL : (by' a).length < 1000000) : b_Number fu a d = some (rdN (numL d (by' a))) := by
 have hsl : sln a = ((by' a).length : Int) := rfl
 unfold b_Number numL
 rw [hsl]
 cases hb : by' a with
 | nil => simp [rdN]
 | cons b r =>
  have hlen : (by' a).length = r.length + 1 := by rw [hb]; rfl
  obtain ⟨a1, _⟩ := head_at (a := a) (b := b) (by rw [hb]; rfl)
  rw [if_pos (by simp), a1]
  simp only [List.head?_cons, Option.some.injEq, List.tail_cons, List.length_cons]
  by_cases h45 : b = 45
  ·subst h45
   rw [if_pos (by decide)]
   simp only [if_true]
   by_cases h1 : r = []
   ·subst h1
    rw [if_pos (by simp), if_pos (.inl rfl)]; rfl
   ·have hr : 0 < r.length := List.length_pos_iff.2 h1
    rw [if_neg (by omega), wrapB (by omega) (by omega)]
    by_cases h2 : d < (r.length : Int)
    ·rw [if_pos (by omega), if_pos (.inr (.inl h2))]; rfl
    ·rw [if_neg (by omega), if_pos (by omega)]
     obtain ⟨x, r', hr'⟩ : ∃ x r', r = x :: r' := by cases r with | nil => exact absurd rfl h1 | cons x r' => exact ⟨x, r', rfl⟩
     obtain ⟨a3, _, _⟩ := s_at (a := a) (i := 1) (b := x) (by rw [hb, hr']; rfl)
     rw [show sat a 1 = (x.toNat : Int) from a3]
     by_cases h3 : (x.toNat : Int) = 48
     ·have : x = 48 := UInt8.toNat_inj.1 (by show x.toNat = 48; omega)
      rw [if_pos h3, if_pos (.inr (.inr ⟨by rw [hr', this]; rfl, by omega⟩))]; rfl
     ·rw [if_neg h3, z_num1 fu a (by omega) (by omega) (by omega), hb, List.tail_cons, if_neg]
      ·cases hv : digV r 0 with
       | none => rfl
       | some m =>
        have := digV_small (show r.length ≤ 15 by omega) hv
        simp only [Option.bind_some, Option.map_some, rdN]
        rw [wrapB (by omega) (by omega)]; simp
      ·rintro (c | c | ⟨c, _⟩)
       ·exact h1 c
       ·exact h2 c
       ·rw [hr'] at c; simp only [List.head?_cons, Option.some.injEq] at c; rw [c] at h3; exact h3 rfl
  ·rw [if_neg (fun c => h45 (UInt8.toNat_inj.1 (by show b.toNat = 45; omega)))]
   simp only [if_neg h45, List.head?_cons, Option.some.injEq, List.length_cons]
   rw [wrapB (by omega) (by omega)]
   by_cases h2 : d < ((r.length + 1 : Nat) : Int)
   ·rw [if_pos (by omega), if_pos (.inr (.inl h2))]; rfl
   ·rw [if_neg (by omega)]
    have fin : (Option.bind (b_Number_L2 fu a fu (0 : Int) (0 : Int)) fun o => (match o with | .inl y => (some ((0 : Int), false)) | .inr y => (some (y, true)))) = some (rdN ((digV (b :: r) 0).map fun n => n)) := by
     rw [z_num2 fu a (by omega) (by omega), hb]
     cases hv : digV (b :: r) 0 <;> rfl
    by_cases h3 : (b.toNat : Int) = 48
    ·have : b = 48 := UInt8.toNat_inj.1 (by show b.toNat = 48; omega)
     rw [if_pos h3]
     by_cases h4 : (1 : Int) < ((r.length + 1 : Nat) : Int)
     ·rw [if_pos h4, if_pos (.inr (.inr ⟨this, by omega⟩))]; rfl
     ·rw [if_neg h4, if_neg]
      ·exact fin
      ·rintro (c | c | ⟨_, c⟩)
       ·cases c
       ·exact h2 c
       ·omega
    ·rw [if_neg h3, if_neg]
     ·exact fin
     ·rintro (c | c | ⟨c, _⟩)
      ·cases c
      ·exact h2 c
      ·rw [c] at h3; exact h3 rfl
end Go.Proofs.YtlfmdkmjfokgbaaGreatDoor
