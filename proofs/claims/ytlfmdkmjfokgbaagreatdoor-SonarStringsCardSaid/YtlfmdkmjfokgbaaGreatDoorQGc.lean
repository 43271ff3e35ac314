/-
  Devices and scenes of sonars as strings: words, devices.
-/
import Derived.Test.YtlfmdkmjfokgbaaGreatDoorQGe
import Derived.Test.YtlfmdkmjfokgbaaGreatDoorZG4a
import Derived.Test.YtlfmdkmjfokgbaaGreatDoorZG4e
import Derived.Test.YtlfmdkmjfokgbaaGreatDoorZG4l
set_option linter.all false
namespace Go.Proofs.YtlfmdkmjfokgbaaGreatDoor
open Go Go.RowKit Go.Lib Go.Proofs.YtlfmdkmjfokgbaaGreatDoor.Cm
open St (by' co splitL numL digV)
/-! ### Words -/
def cnt (d : Int) : List (List UInt8) → Option (List Int)
 | [] => some []
 | w :: r => match numL d w with
  | none => none
  | some n => if n < 0 then none else (cnt d r).map (n :: ·)
theorem cnt_len {d : Int} : ∀ {ws : List (List UInt8)} {l : List Int}, cnt d ws = some l → l.length = ws.length
 | [], l, h => by injection h with h; subst h; rfl
 | w :: r, l, h => by
  rw [cnt] at h
  split at h
  ·cases h
  ·split at h
   ·cases h
   ·rw [Option.map_eq_some_iff] at h
    obtain ⟨m, h1, rfl⟩ := h
    simp [cnt_len h1]
def wordsK (k : Nat) (t : List UInt8) : Option (List Int) := if (splitL 32 t).length = k then cnt 3 (splitL 32 t) else none
theorem wordsK_len {k : Nat} {t : List UInt8} {l : List Int} (h : wordsK k t = some l) : l.length = k := by
 unfold wordsK at h
 split at h
 ·rename_i hk; rw [cnt_len h, hk]
 ·cases h
theorem splitL_no {c : UInt8} {l : List UInt8} : ∀ w ∈ splitL c l, c ∉ w := by
 have : ∀ (l acc : List UInt8), c ∉ acc → ∀ w ∈ St.cutGo c acc l, c ∉ w := fun l => by
  induction l with
  | nil => intro acc ha w hw; simp [St.cutGo] at hw; subst hw; exact ha
  | cons b l ih =>
   intro acc ha w hw
   rw [St.cutGo] at hw
   split at hw
   ·rcases List.mem_cons.1 hw with rfl | hw
    ·exact ha
    ·exact ih [] (by simp) w hw
   ·rename_i hb
    exact ih (acc ++ [b]) (by simp; exact ⟨ha, fun e => hb e.symm⟩) w hw
 exact this l [] (by simp)
def rdC : Option Int → Int × Bool
 | none => (0, false)
 | some n => if n < 0 then (0, false) else (n, true)
theorem p_countIn {fu : Nat} (hf : 100000 ≤ fu) {a d : Int} (hd : 1 ≤ d ∧ d ≤ 15) (h32 : (32 : UInt8) ∉ by' a) (ha : (by' a).length < 65000) : u_CountIn fu a d = some (rdC (numL d (by' a))) := by
 have hs : splitL 32 (by' a) = [by' a] := by unfold St.splitL; rw [St.cutGo_none _ _ h32]; simp
 unfold u_CountIn
 rw [x_numbersIn hf (by simp) hd ha, hs, Option.bind_some]
 cases hn : numL d (by' a) with
 | none => rw [show numsU d [0] 0 [by' a] = none by rw [numsU, hn]]; rfl
 | some n =>
  by_cases h0 : n < 0
  ·rw [show numsU d [0] 0 [by' a] = none by rw [numsU, hn]; simp [h0]]
   simp only [rdC]; rw [if_pos h0]; rfl
  ·rw [show numsU d [0] 0 [by' a] = some [n] by rw [numsU, hn]; simp [h0, numsU]]
   obtain ⟨P, hP⟩ : ∃ P, P = rdL (some [n]) := ⟨_, rfl⟩
   have hP1 : P.1 = [n] := by rw [hP]; rfl
   have hP2 : P.2 = true := by rw [hP]; rfl
   have e0 : ([n] : List Int)[0 + (0 : Int).toNat]? = some n := rfl
   rw [← hP, if_pos hP2, hP1, if_pos (by simp), if_pos (by simp), e0, Option.bind_some]
   simp only [rdC]; rw [if_neg h0]
theorem p_countIn1 {fu : Nat} (hf : 100000 ≤ fu) {a d : Int} (hd : 1 ≤ d ∧ d ≤ 15) (h32 : (32 : UInt8) ∉ by' a) (ha : (by' a).length < 65000) : u_CountsIn_1 fu a d = some (rdC (numL d (by' a))) := by
 unfold u_CountsIn_1
 rw [p_countIn hf hd h32 ha, Option.bind_some]
 generalize rdC (numL d (by' a)) = r
 obtain ⟨x, b⟩ := r
 cases b <;> rfl
theorem p_itemsI {fu : Nat} (hf : 100000 ≤ fu) {d : Int} (hd : 1 ≤ d ∧ d ≤ 15) (b : Bool) (p3 p4 : Int) (ws : List Int) (hw : ws.length < 65500) (hwl : ∀ w ∈ ws, (by' w).length < 65000 ∧ (32 : UInt8) ∉ by' w) : ∀ (n : Nat) (v : List Int) (i : Nat), i ≤ ws.length → v.length = i → ws.length - i < n →
  ∃ o, u_itemsOf_1_2_L1 fu b d p3 p4 ws (ws.length : Int) n v (i : Int) = some o ∧ (match cnt d ((ws.map by').drop i) with | none => ∃ x, o = .inl x | some l => o = .inr (v ++ l))
 | 0, v, i, _, _, h => by omega
 | n + 1, v, i, hi, hv, h => by
  rcases Nat.lt_or_ge i ws.length with h1 | h1
  ·obtain ⟨g1, g2, g3⟩ := idx (List.getElem?_eq_getElem h1)
   have hdr : (ws.map by').drop i = by' ws[i] :: (ws.map by').drop (i + 1) := by
    rw [List.drop_eq_getElem_cons (by rw [List.length_map]; exact h1), List.getElem_map]
   obtain ⟨hb, hc⟩ := hwl _ (List.getElem_mem h1)
   rw [u_itemsOf_1_2_L1, if_pos g1, if_pos g2, if_pos g1, g3, Option.bind_some, p_countIn1 hf hd hc hb, Option.bind_some, hdr, cnt]
   cases hn : numL d (by' ws[i]) with
   | none => exact ⟨_, rfl, _, rfl⟩
   | some m =>
    simp only [rdC]
    by_cases h0 : m < 0
    ·simp only [if_pos h0]; exact ⟨_, rfl, _, rfl⟩
    ·simp only [if_neg h0, if_true]
     rw [if_pos (by omega), wrapS (by omega)]
     obtain ⟨o, e1, e2⟩ := p_itemsI hf hd b p3 p4 ws hw hwl n (v ++ [m]) (i + 1) (by omega) (by simp; omega) (by omega)
     refine ⟨o, e1, ?_⟩
     cases hq : cnt d ((ws.map by').drop (i + 1)) with
     | none => rw [hq] at e2; exact e2
     | some l => rw [hq] at e2; simp only [Option.map_some] at e2 ⊢; rw [e2]; simp
  ·have : i = ws.length := by omega
   subst this
   rw [u_itemsOf_1_2_L1, if_neg (by omega), List.drop_of_length_le (by simp), cnt]
   exact ⟨_, rfl, by simp⟩
theorem p_countsIn {fu : Nat} (hf : 100000 ≤ fu) {a d : Int} (hd : 1 ≤ d ∧ d ≤ 15) (ha : (by' a).length < 65000) : u_CountsIn fu a d = some (if a = 0 then ([], true) else rdL (cnt d (splitL 32 (by' a)))) := by
 have hlen := splitL_len 32 (by' a)
 unfold u_CountsIn u_ReadAny_int_CountsIn_1 u_itemsOf_1_2
 by_cases h0 : a = 0
 ·rw [if_pos h0, if_pos h0]; rfl
 ·rw [if_neg h0, if_neg h0, s_split b_blank (by omega), Option.bind_some]
  obtain ⟨o, e1, e2⟩ := p_itemsI hf hd false a (-17) ((splitL 32 (by' a)).map co) (by rw [List.length_map]; omega) (fun w hw => by
   obtain ⟨x, hx, rfl⟩ := List.mem_map.1 hw
   rw [St.by_co]; exact ⟨by have := splitL_mem x hx; omega, splitL_no x hx⟩) fu [] 0 (Nat.zero_le _) rfl (by rw [List.length_map]; omega)
  rw [show ((0 : Nat) : Int) = 0 from rfl] at e1
  rw [map_by_co, List.drop_zero] at e2
  rw [e1, Option.bind_some]
  cases hq : cnt d (splitL 32 (by' a)) with
  | none => rw [hq] at e2; obtain ⟨x, rfl⟩ := e2; rfl
  | some l => rw [hq] at e2; simp only [List.nil_append] at e2; subst e2; rfl
theorem p_wordsIn {fu : Nat} (hf : 100000 ≤ fu) {a : Int} {k : Nat} (hk : 2 ≤ k) (ha : (by' a).length < 65000) : ∃ r, s_wordsIn fu a (k : Int) = some r ∧ (match wordsK k (by' a) with | some l => r = (l, true) | none => r.2 = false) := by
 unfold s_wordsIn
 rw [p_countsIn hf (by omega) ha, Option.bind_some]
 by_cases h0 : a = 0
 ·have hw : wordsK k (by' a) = none := by
   unfold wordsK
   rw [h0, b_empty, if_neg]
   show ¬ [([] : List UInt8)].length = k
   simp; omega
  rw [if_pos h0, hw, if_pos rfl, if_neg (by simp; omega)]
  exact ⟨_, rfl, rfl⟩
 ·rw [if_neg h0]
  unfold wordsK
  cases hq : cnt 3 (splitL 32 (by' a)) with
  | none =>
   refine ⟨_, rfl, ?_⟩
   by_cases hl : (splitL 32 (by' a)).length = k
   ·rw [if_pos hl]
   ·rw [if_neg hl]
  | some l =>
   have hl := cnt_len hq
   obtain ⟨P, hP⟩ : ∃ P, P = rdL (some l) := ⟨_, rfl⟩
   have hP1 : P.1 = l := by rw [hP]; rfl
   have hP2 : P.2 = true := by rw [hP]; rfl
   rw [← hP, if_pos hP2, hP1]
   by_cases hk : (splitL 32 (by' a)).length = k
   ·rw [if_pos hk, if_pos (by omega)]; exact ⟨_, rfl, rfl⟩
   ·rw [if_neg hk, if_neg (by omega)]; exact ⟨_, rfl, rfl⟩
theorem r_numbersL {fu : Nat} (hf : 100000 ≤ fu) (ws : List Int) (hw : ws.length < 65500) (hwl : ∀ w ∈ ws, (by' w).length < 65000) : ∀ (n : Nat) (v : List Int) (i : Nat), i ≤ ws.length → v.length = i → ws.length - i < n →
  r4_numbers_L1 fu ws n v (i : Int) = some (match cnt 3 ((ws.map by').drop i) with | none => .inl () | some l => .inr (v ++ l))
 | 0, v, i, _, _, h => by omega
 | n + 1, v, i, hi, hv, h => by
  rcases Nat.lt_or_ge i ws.length with h1 | h1
  ·obtain ⟨g1, g2, g3⟩ := idx (List.getElem?_eq_getElem h1)
   have hdr : (ws.map by').drop i = by' ws[i] :: (ws.map by').drop (i + 1) := by
    rw [List.drop_eq_getElem_cons (by rw [List.length_map]; exact h1), List.getElem_map]
   have hb := hwl _ (List.getElem_mem h1)
   rw [r4_numbers_L1, if_pos g1, if_pos g2, g3, Option.bind_some, z_number (by omega) _ (by omega) (by omega), Option.bind_some, hdr, cnt]
   cases hnum : numL 3 (by' ws[i]) with
   | none => rfl
   | some m =>
    obtain ⟨P, hP⟩ : ∃ P, P = rdN (some m) := ⟨_, rfl⟩
    have hP1 : P.1 = m := by rw [hP]; rfl
    have hP2 : P.2 = true := by rw [hP]; rfl
    rw [← hP, if_pos hP2, hP1]
    simp only
    by_cases h0 : m < 0
    ·rw [if_pos h0, if_pos h0]
    ·rw [if_neg h0, if_neg h0, if_pos (by omega), wrapS (by omega), r_numbersL hf ws hw hwl n _ (i + 1) (by omega) (by simp; omega) (by omega)]
     cases cnt 3 ((ws.map by').drop (i + 1)) with
     | none => rfl
     | some l => simp
  ·have : i = ws.length := by omega
   subst this
   rw [r4_numbers_L1, if_neg (by omega), List.drop_of_length_le (by simp), cnt]; simp
theorem r_numbers {fu : Nat} (hf : 100000 ≤ fu) {a : Int} (k : Nat) (ha : (by' a).length < 65000) : r4_numbers fu a (k : Int) = some (rdL (wordsK k (by' a))) := by
 have hlen := splitL_len 32 (by' a)
 unfold r4_numbers wordsK
 rw [show (32 : Int) = ((32 : UInt8).toNat : Int) from rfl, z_cut hf 32 ha, Option.bind_some, List.length_map]
 by_cases hk : (splitL 32 (by' a)).length = k
 ·rw [if_pos (by omega), if_pos hk]
  have := r_numbersL hf ((splitL 32 (by' a)).map co) (by rw [List.length_map]; omega) (fun w hw => by
   obtain ⟨x, hx, rfl⟩ := List.mem_map.1 hw
   rw [St.by_co]; have := splitL_mem x hx; omega) fu [] 0 (Nat.zero_le _) rfl (by rw [List.length_map]; omega)
  rw [show ((0 : Nat) : Int) = 0 from rfl, map_by_co, List.drop_zero] at this
  rw [this, Option.bind_some]
  cases cnt 3 (splitL 32 (by' a)) <;> rfl
 ·rw [if_neg (by omega), if_neg hk]; rfl
theorem cnt_itoa {d : Nat} (hd : 1 ≤ d) : ∀ (l : List Int), (∀ x ∈ l, 0 ≤ x ∧ x.natAbs < 10 ^ d) → cnt d (l.map itoa) = some l
 | [], _ => rfl
 | x :: l, h => by
  obtain ⟨h1, h2⟩ := h x (by simp)
  rw [List.map_cons, cnt, St.numL_itoa hd h2]
  simp only
  rw [if_neg (by omega), cnt_itoa hd l fun y hy => h y (by simp [hy])]
  rfl
theorem split_wr4 (x : Int) (l : List Int) : splitL 32 (wr (x :: l)) = (x :: l).map itoa := by
 unfold wr
 rw [List.map_cons]
 exact St.splitL_join 32 _ _ (St.itoa_not (by decide)) fun y hy => by
  obtain ⟨z, _, rfl⟩ := List.mem_map.1 hy
  exact St.itoa_not (by decide)
theorem words_again (x : Int) (l : List Int) (h : ∀ y ∈ x :: l, 0 ≤ y ∧ y < 1000) : wordsK (l.length + 1) (wr (x :: l)) = some (x :: l) := by
 unfold wordsK
 rw [split_wr4 x l, if_pos (by simp), show (3 : Int) = ((3 : Nat) : Int) from rfl]
 exact cnt_itoa (by omega) _ fun y hy => by have := h y hy; omega
/-! ### Devices -/
abbrev Dv := Int × Int × Int
def devL (w : List UInt8) : Option Dv := match wordsK 3 w with
 | some [a, b, c] => some (a, b, c)
 | _ => none
def rdDv : Option Dv → Int × Int × Int × Bool
 | none => (0, 0, 0, false)
 | some (a, b, c) => (a, b, c, true)
def devsL : List (List UInt8) → Option (List Dv)
 | [] => some []
 | w :: r => match devL w with
  | none => none
  | some k => (devsL r).map (k :: ·)
theorem devsL_len : ∀ {ws : List (List UInt8)} {l : List Dv}, devsL ws = some l → l.length = ws.length
 | [], l, h => by injection h with h; subst h; rfl
 | w :: r, l, h => by
  rw [devsL] at h
  split at h
  ·cases h
  ·rw [Option.map_eq_some_iff] at h
   obtain ⟨m, h1, rfl⟩ := h
   simp [devsL_len h1]
theorem p_readDevice {fu : Nat} (hf : 100000 ≤ fu) {a : Int} (ha : (by' a).length < 65000) : s_readDevice fu a = some (rdDv (devL (by' a))) := by
 obtain ⟨r, e1, e2⟩ := p_wordsIn hf (k := 3) (by omega) ha
 unfold s_readDevice devL
 rw [show (3 : Int) = ((3 : Nat) : Int) from rfl, e1, Option.bind_some]
 cases hq : wordsK 3 (by' a) with
 | none => rw [hq] at e2; simp only at e2; rw [e2]; rfl
 | some l =>
  rw [hq] at e2
  simp only at e2
  have hl := wordsK_len hq
  match l, hl with
  | [x, y, z], _ =>
   subst e2
   rfl
theorem p_devsL {fu : Nat} (hf : 100000 ≤ fu) (b : Bool) (p2 p3 : Int) (ws : List Int) (hw : ws.length < 65500) (hwl : ∀ w ∈ ws, (by' w).length < 65000) : ∀ (n : Nat) (v : List Dv) (i : Nat), i ≤ ws.length → v.length = i → ws.length - i < n →
  ∃ o, u_itemsOf_1_L1 fu b p2 p3 ws (ws.length : Int) n v (i : Int) = some o ∧ (match devsL ((ws.map by').drop i) with | none => ∃ x, o = .inl x | some l => o = .inr (v ++ l))
 | 0, v, i, _, _, h => by omega
 | n + 1, v, i, hi, hv, h => by
  rcases Nat.lt_or_ge i ws.length with h1 | h1
  ·obtain ⟨g1, g2, g3⟩ := idx (List.getElem?_eq_getElem h1)
   have hdr : (ws.map by').drop i = by' ws[i] :: (ws.map by').drop (i + 1) := by
    rw [List.drop_eq_getElem_cons (by rw [List.length_map]; exact h1), List.getElem_map]
   have hb := hwl _ (List.getElem_mem h1)
   rw [u_itemsOf_1_L1, if_pos g1, if_pos g2, if_pos g1, g3, Option.bind_some, p_readDevice hf hb, Option.bind_some, hdr, devsL]
   cases hn : devL (by' ws[i]) with
   | none => exact ⟨_, rfl, _, rfl⟩
   | some m =>
    obtain ⟨x, y, z⟩ := m
    simp only [rdDv, if_true]
    rw [if_pos (by omega), wrapS (by omega)]
    obtain ⟨o, e1, e2⟩ := p_devsL hf b p2 p3 ws hw hwl n (v ++ [(x, y, z)]) (i + 1) (by omega) (by simp; omega) (by omega)
    refine ⟨o, e1, ?_⟩
    cases hq : devsL ((ws.map by').drop (i + 1)) with
    | none => rw [hq] at e2; exact e2
    | some l => rw [hq] at e2; simp only [Option.map_some] at e2 ⊢; rw [e2]; simp
  ·have : i = ws.length := by omega
   subst this
   rw [u_itemsOf_1_L1, if_neg (by omega), List.drop_of_length_le (by simp), devsL]
   exact ⟨_, rfl, by simp⟩
def rdDs : Option (List Dv) → List Dv × Bool
 | none => ([], false)
 | some l => (l, true)
theorem p_readDevices {fu : Nat} (hf : 100000 ≤ fu) {a : Int} (ha : (by' a).length < 65000) : s_readDevices fu a = some (rdDs (devsL (splitL 59 (by' a)))) := by
 have hlen := splitL_len 59 (by' a)
 unfold s_readDevices u_ReadSome_SonarDevice_readDevice u_ReadAny_SonarDevice_readDevice u_itemsOf_1
 by_cases h0 : a = 0
 ·have hd : devsL (splitL 59 (by' a)) = none := by
   rw [h0, b_empty]
   show devsL [[]] = none
   rw [devsL]
   have : devL [] = none := by
    unfold devL wordsK
    rw [if_neg (by show ¬ [([] : List UInt8)].length = 3; simp)]
   rw [this]
  rw [if_pos h0, hd]; rfl
 ·rw [if_neg h0, s_split b_semi (by omega), Option.bind_some]
  obtain ⟨o, e1, e2⟩ := p_devsL hf false a 30 ((splitL 59 (by' a)).map co) (by rw [List.length_map]; omega) (fun w hw => by
   obtain ⟨x, hx, rfl⟩ := List.mem_map.1 hw
   rw [St.by_co]; have := splitL_mem x hx; omega) fu [] 0 (Nat.zero_le _) rfl (by rw [List.length_map]; omega)
  rw [show ((0 : Nat) : Int) = 0 from rfl] at e1
  rw [map_by_co, List.drop_zero] at e2
  rw [e1, Option.bind_some]
  cases hq : devsL (splitL 59 (by' a)) with
  | none => rw [hq] at e2; obtain ⟨x, rfl⟩ := e2; rfl
  | some l =>
   rw [hq] at e2; simp only [List.nil_append] at e2; subst e2
   have h1 := devsL_len hq
   have h2 : 0 < (splitL 59 (by' a)).length := List.length_pos_iff.2 (St.splitL_ne _ _)
   show Option.bind (Option.bind (some (l, true)) _) _ = _
   rw [Option.bind_some]
   simp only [if_true]
   rw [if_pos (by omega)]; rfl
def okD (e : Dv) : Prop := (0 ≤ e.1 ∧ e.1 ≤ 20) ∧ (1 ≤ e.2.1 ∧ e.2.1 ≤ 10) ∧ (0 ≤ e.2.2 ∧ e.2.2 ≤ 10)
instance (e : Dv) : Decidable (okD e) := by unfold okD; exact inferInstance
def dvE (e : Dv) : Int := if okD e then 0 else 2
theorem q_dev {fu : Nat} (hf : 10 ≤ fu) (e : Dv) : s_deviceError fu e.1 e.2.1 e.2.2 = some (dvE e) := by
 unfold s_deviceError
 rw [x_limit, Option.bind_some, x_limit, Option.bind_some, x_limit, Option.bind_some, x_first fu _ (by simp <;> omega) (by simp), Option.bind_some]
 unfold dvE okD
 by_cases c1 : 0 ≤ e.1 ∧ e.1 ≤ 20
 ·by_cases c2 : 1 ≤ e.2.1 ∧ e.2.1 ≤ 10
  ·by_cases c3 : 0 ≤ e.2.2 ∧ e.2.2 ≤ 10
   ·simp [firstE, limE_zero.2 c1, limE_zero.2 c2, limE_zero.2 c3, c1, c2, c3]
   ·simp [firstE, limE_zero.2 c1, limE_zero.2 c2, limE_two c3, c3]
  ·simp [firstE, limE_zero.2 c1, limE_two c2, c2]
 ·simp [firstE, limE_two c1, c1]
def devE (l : List Dv) : Int := if (l.length : Int) = 0 then 10 else if (5 : Int) < (l.length : Int) then 8 else fstF dvE l
theorem q_devs {fu : Nat} (hf : 100000 ≤ fu) (l : List Dv) (hl : l.length < 70000) : s_devicesError fu l = some (devE l) := by
 unfold s_devicesError s_CheckDevices u_CheckList_SonarDevice_deviceError u_FirstBad_SonarDevice_deviceError devE
 by_cases h0 : (l.length : Int) = 0
 ·rw [if_pos (by omega), if_pos h0]; rfl
 ·rw [if_neg (by omega), if_neg h0]
  by_cases h5 : (5 : Int) < (l.length : Int)
  ·rw [if_pos h5, if_pos h5]; rfl
  ·rw [if_neg h5, if_neg h5]
   obtain ⟨o, e1, e2⟩ := fb_run l (fun n i => u_FirstBad_SonarDevice_deviceError_L1 fu l (l.length : Int) n (i : Int)) (Sum.elim (·.2) (fun _ => 0)) dvE
    (fun n => ⟨.inr (), by rw [u_FirstBad_SonarDevice_deviceError_L1, if_neg (by omega)], rfl⟩)
    (fun n i e he => by
     obtain ⟨h1, h2, h3⟩ := idx he
     rw [u_FirstBad_SonarDevice_deviceError_L1, if_pos h1, if_pos h2, if_pos h1, h3, Option.bind_some, q_dev (by omega), Option.bind_some]
     by_cases h0 : dvE e = 0
     ·rw [if_pos h0, wrapS (by omega)]; exact .inl ⟨h0, rfl⟩
     ·rw [if_neg h0]; exact .inr ⟨h0, _, rfl, rfl⟩) fu 0 (by omega) (by omega)
   rw [show ((0 : Nat) : Int) = 0 from rfl] at e1
   rw [List.drop_zero] at e2
   rw [e1, ← e2]
   cases o <;> rfl
theorem q_rdevs {fu : Nat} (hf : 100000 ≤ fu) (l : List Dv) (hl : l.length < 70000) : r4_DevicesErr fu l = some (devE l) := by
 unfold r4_DevicesErr r4_CheckDevices devE
 by_cases h0 : (l.length : Int) = 0
 ·rw [if_pos h0, if_pos h0]; rfl
 ·rw [if_neg h0, if_neg h0]
  by_cases h5 : (5 : Int) < (l.length : Int)
  ·rw [if_pos h5, if_pos h5]; rfl
  ·rw [if_neg h5, if_neg h5]
   obtain ⟨o, e1, e2⟩ := fb_run l (fun n i => r4_CheckDevices_L1 fu l n (i : Int)) (Sum.elim (fun _ => 2) (fun _ => 0)) dvE
    (fun n => ⟨.inr (), by rw [r4_CheckDevices_L1, if_neg (by omega)], rfl⟩)
    (fun n i e he => by
     obtain ⟨h1, h2, h3⟩ := idx he
     rw [r4_CheckDevices_L1, if_pos h1, if_pos h2, h3, Option.bind_some, wrapS (by omega)]
     simp only [x_within, Option.bind_some, decide_eq_true_eq]
     unfold dvE okD
     by_cases c1 : 0 ≤ e.1 ∧ e.1 ≤ 20 <;> by_cases c2 : 1 ≤ e.2.1 ∧ e.2.1 ≤ 10 <;> by_cases c3 : 0 ≤ e.2.2 ∧ e.2.2 ≤ 10 <;> simp only [c1, c2, c3, if_true, if_false, and_self, and_true, and_false, true_and, false_and] <;> first | exact .inl ⟨rfl, rfl⟩ | exact .inl trivial | exact .inr ⟨by omega, _, rfl, rfl⟩) fu 0 (by omega) (by omega)
   rw [show ((0 : Nat) : Int) = 0 from rfl] at e1
   rw [List.drop_zero] at e2
   rw [e1, ← e2]
   cases o <;> rfl
def devV (l : Option (List Dv)) : List Dv × Int := match l with
 | none => ([], 7)
 | some l => if devE l = 0 then (l, 0) else ([], devE l)
def parsedD (a : Int) : List Dv × Int := if (60000 : Int) < sln a then ([], 8) else devV (devsL (splitL 59 (by' a)))
theorem p_parseDevices {fu : Nat} (hf : 100000 ≤ fu) (a : Int) : s_ParseDevices fu a = some (parsedD a) := by
 have hsl : sln a = ((by' a).length : Int) := rfl
 have hlen := splitL_len 59 (by' a)
 unfold s_ParseDevices u_Parsed_SonarDevice_readDevices_devicesError parsedD
 by_cases h : (60000 : Int) < sln a
 ·rw [if_pos h, if_pos h]; rfl
 ·rw [if_neg h, if_neg h, p_readDevices hf (by omega), Option.bind_some]
  cases hq : devsL (splitL 59 (by' a)) with
  | none => rfl
  | some l =>
   have h1 := devsL_len hq
   simp only [rdDs, devV, if_true]
   rw [q_devs hf l (by omega), Option.bind_some]
   by_cases h0 : devE l = 0
   ·rw [if_pos h0, if_pos h0]; rfl
   ·rw [if_neg h0, if_neg h0]; rfl
theorem r_devsL {fu : Nat} (hf : 100000 ≤ fu) (ws : List Int) (hw : ws.length < 65500) (hwl : ∀ w ∈ ws, (by' w).length < 65000) : ∀ (n : Nat) (v : List Dv) (i : Nat), i ≤ ws.length → v.length = i → ws.length - i < n →
  r4_ParseDevices_L1 fu ws n v (i : Int) = some (match devsL ((ws.map by').drop i) with | none => .inl () | some l => .inr (v ++ l))
 | 0, v, i, _, _, h => by omega
 | n + 1, v, i, hi, hv, h => by
  rcases Nat.lt_or_ge i ws.length with h1 | h1
  ·obtain ⟨g1, g2, g3⟩ := idx (List.getElem?_eq_getElem h1)
   have hdr : (ws.map by').drop i = by' ws[i] :: (ws.map by').drop (i + 1) := by
    rw [List.drop_eq_getElem_cons (by rw [List.length_map]; exact h1), List.getElem_map]
   have hb := hwl _ (List.getElem_mem h1)
   rw [r4_ParseDevices_L1, if_pos g1, if_pos g2, g3, Option.bind_some, show (3 : Int) = ((3 : Nat) : Int) from rfl, r_numbers hf 3 hb, Option.bind_some, hdr, devsL]
   cases hq : wordsK 3 (by' ws[i]) with
   | none =>
    have hk : devL (by' ws[i]) = none := by unfold devL; rw [hq]
    rw [hk]; rfl
   | some l =>
    have hl := wordsK_len hq
    match l, hl, hq with
    | [a, b, c], _, hq =>
     have hk : devL (by' ws[i]) = some (a, b, c) := by unfold devL; rw [hq]
     obtain ⟨P, hP⟩ : ∃ P, P = rdL (some [a, b, c]) := ⟨_, rfl⟩
     have hP1 : P.1 = [a, b, c] := by rw [hP]; rfl
     have hP2 : P.2 = true := by rw [hP]; rfl
     have e0 : ([a, b, c] : List Int)[0 + (0 : Int).toNat]? = some a := rfl
     have e1 : ([a, b, c] : List Int)[0 + (1 : Int).toNat]? = some b := rfl
     have e2 : ([a, b, c] : List Int)[0 + (2 : Int).toNat]? = some c := rfl
     rw [← hP, if_pos hP2, hP1, hk, if_pos (by simp), e0, Option.bind_some, if_pos (by simp), e1, Option.bind_some, if_pos (by simp), e2, Option.bind_some, if_pos (by omega), wrapS (by omega), r_devsL hf ws hw hwl n _ (i + 1) (by omega) (by simp; omega) (by omega)]
     cases devsL ((ws.map by').drop (i + 1)) with
     | none => rfl
     | some l => simp
  ·have : i = ws.length := by omega
   subst this
   rw [r4_ParseDevices_L1, if_neg (by omega), List.drop_of_length_le (by simp), devsL]; simp
theorem r_parseDevices {fu : Nat} (hf : 100000 ≤ fu) (a : Int) : r4_ParseDevices fu a = some (parsedD a) := by
 have hsl : sln a = ((by' a).length : Int) := rfl
 have hlen := splitL_len 59 (by' a)
 unfold r4_ParseDevices parsedD
 by_cases h : (60000 : Int) < sln a
 ·rw [if_pos h, if_pos h]
 ·rw [if_neg h, if_neg h, show (59 : Int) = ((59 : UInt8).toNat : Int) from rfl, z_cut hf 59 (by omega), Option.bind_some]
  have := r_devsL hf ((splitL 59 (by' a)).map co) (by rw [List.length_map]; omega) (fun w hw => by
   obtain ⟨x, hx, rfl⟩ := List.mem_map.1 hw
   rw [St.by_co]; have := splitL_mem x hx; omega) fu [] 0 (Nat.zero_le _) rfl (by rw [List.length_map]; omega)
  rw [show ((0 : Nat) : Int) = 0 from rfl, map_by_co, List.drop_zero] at this
  rw [this, Option.bind_some]
  cases hq : devsL (splitL 59 (by' a)) with
  | none => rfl
  | some l =>
   have h1 := devsL_len hq
   simp only [devV, List.nil_append]
   rw [q_rdevs hf l (by omega), Option.bind_some]
   by_cases h0 : devE l = 0 <;> simp [h0]
end Go.Proofs.YtlfmdkmjfokgbaaGreatDoor

namespace Go.Proofs.YtlfmdkmjfokgbaaGreatDoor
open Go Go.RowKit Go.Lib Go.Proofs.YtlfmdkmjfokgbaaGreatDoor.Cm
open St (by' co splitL numL digV)
abbrev Ry := Int × Int × Int × Int × Bool
def rayL (w : List UInt8) : Option Ry := match wordsK 5 w with
 | some [a, b, c, d, e] => if 1 < e then none else some (a, b, c, d, decide (e = 1))
 | _ => none
def raysL : List (List UInt8) → Option (List Ry)
 | [] => some []
 | w :: r => match rayL w with
  | none => none
  | some k => (raysL r).map (k :: ·)
theorem raysL_len : ∀ {ws : List (List UInt8)} {l : List Ry}, raysL ws = some l → l.length = ws.length
 | [], l, h => by injection h with h; subst h; rfl
 | w :: r, l, h => by
  rw [raysL] at h
  split at h
  ·cases h
  ·rw [Option.map_eq_some_iff] at h
   obtain ⟨m, h1, rfl⟩ := h
   simp [raysL_len h1]
def twoL (w : List UInt8) : Option (Int × Int) := match wordsK 2 w with
 | some [a, b] => some (a, b)
 | _ => none
def sceneL (l : List UInt8) : Option (Int × Int × List Ry) := match splitL 59 l with
 | [] => none
 | p :: ps => match twoL p with
  | none => none
  | some (x, z) => (raysL ps).map fun ks => (x, z, ks)
theorem p_raysL {fu : Nat} (hf : 100000 ≤ fu) (x z p : Int) {ps : List (List UInt8)} (hl : ps.length < 65000) (hw : ∀ w ∈ ps, w.length < 65000) : ∀ (n : Nat) (v : List Ry) (i : Nat), i ≤ ps.length → v.length = i → ps.length - i < n →
  s_readScene_L1 fu x z (p :: ps.map co) (ps.length : Int) n v (i : Int) = some (match raysL (ps.drop i) with | none => .inl () | some l => .inr (v ++ l))
 | 0, v, i, _, _, h => by omega
 | n + 1, v, i, hi, hv, h => by
  rcases Nat.lt_or_ge i ps.length with h1 | h1
  ·have he : (p :: ps.map co)[1 + ((i : Int)).toNat]? = some (co ps[i]) := by
    rw [Int.toNat_natCast, Nat.add_comm, List.getElem?_cons_succ, List.getElem?_map, List.getElem?_eq_getElem h1]; rfl
   have hb := hw _ (List.getElem_mem h1)
   obtain ⟨r, w1, w2⟩ := p_wordsIn hf (a := co ps[i]) (k := 5) (by omega) (by rw [St.by_co]; exact hb)
   rw [St.by_co] at w2
   rw [s_readScene_L1, if_pos (by omega), if_pos (by omega), he, Option.bind_some, show (5 : Int) = ((5 : Nat) : Int) from rfl, w1, Option.bind_some, List.drop_eq_getElem_cons h1, raysL]
   cases hq : wordsK 5 ps[i] with
   | none =>
    have hk : rayL ps[i] = none := by unfold rayL; rw [hq]
    rw [hq] at w2; simp only at w2
    rw [hk, if_neg (by rw [w2]; simp)]
   | some l =>
    have hl5 := wordsK_len hq
    match l, hl5, hq with
    | [a, b, c, d, e], _, hq =>
     have hk : rayL ps[i] = if 1 < e then none else some (a, b, c, d, decide (e = 1)) := by unfold rayL; rw [hq]
     rw [hq] at w2; simp only at w2
     have hP1 : r.1 = [a, b, c, d, e] := by rw [w2]
     have hP2 : r.2 = true := by rw [w2]
     have e0 : ([a, b, c, d, e] : List Int)[0 + (0 : Int).toNat]? = some a := rfl
     have e1 : ([a, b, c, d, e] : List Int)[0 + (1 : Int).toNat]? = some b := rfl
     have e2 : ([a, b, c, d, e] : List Int)[0 + (2 : Int).toNat]? = some c := rfl
     have e3 : ([a, b, c, d, e] : List Int)[0 + (3 : Int).toNat]? = some d := rfl
     have e4 : ([a, b, c, d, e] : List Int)[0 + (4 : Int).toNat]? = some e := rfl
     clear w1 w2
     rw [if_pos hP2, hP1, hk, if_pos (by simp), e4, Option.bind_some]
     by_cases hh : 1 < e
     ·rw [if_pos hh, if_pos hh]
     ·have ih := fun y => p_raysL hf x z p hl hw n (v ++ [(a, b, c, d, y)]) (i + 1) (by omega) (by simp; omega) (by omega)
      rw [if_neg hh, if_neg hh, if_pos (by simp), e0, Option.bind_some, if_pos (by simp), e1, Option.bind_some, if_pos (by simp), e2, Option.bind_some, if_pos (by simp), e3, Option.bind_some, wrapS (by omega), ih, ih]
      by_cases h1e : e = 1
      ·rw [if_pos h1e, if_pos (by omega), decide_eq_true h1e]
       cases raysL (ps.drop (i + 1)) with
       | none => rfl
       | some l => simp
      ·rw [if_neg h1e, if_pos (by omega), decide_eq_false h1e]
       cases raysL (ps.drop (i + 1)) with
       | none => rfl
       | some l => simp
  ·have : i = ps.length := by omega
   subst this
   rw [s_readScene_L1, if_neg (by omega), List.drop_of_length_le (Nat.le_refl _), raysL]; simp
def rdSc : Option (Int × Int × List Ry) → Int × Int × List Ry × Bool
 | none => (0, 0, [], false)
 | some (x, z, ks) => (x, z, ks, true)
theorem p_readScene {fu : Nat} (hf : 100000 ≤ fu) {a : Int} (ha : (by' a).length < 60010) : s_readScene fu a = some (rdSc (sceneL (by' a))) := by
 have hlen := splitL_len 59 (by' a)
 have hmem := @splitL_mem 59 (by' a)
 unfold s_readScene sceneL
 rw [s_split b_semi (by omega), Option.bind_some]
 cases hs : splitL 59 (by' a) with
 | nil => exact absurd hs (St.splitL_ne _ _)
 | cons p ps =>
  rw [hs] at hlen hmem
  rw [List.length_cons] at hlen
  have hp := hmem p (by simp)
  obtain ⟨r, w1, w2⟩ := p_wordsIn hf (a := co p) (k := 2) (by omega) (by rw [St.by_co]; omega)
  rw [St.by_co] at w2
  have hl1 : ((co p :: ps.map co).length : Int) = (ps.length : Int) + 1 := by rw [List.length_cons, List.length_map]; rfl
  rw [List.map_cons, hl1, if_pos (by omega)]
  simp only [Int.toNat_zero, Nat.add_zero, List.getElem?_cons_zero, Option.bind_some]
  rw [show (2 : Int) = ((2 : Nat) : Int) from rfl, w1, Option.bind_some]
  cases hq : wordsK 2 p with
  | none =>
   have hk : twoL p = none := by unfold twoL; rw [hq]
   rw [hq] at w2; simp only at w2
   rw [hk, if_neg (by rw [w2]; simp)]; rfl
  | some l =>
   have hl2 := wordsK_len hq
   match l, hl2, hq with
   | [x, z], _, hq =>
    have hk : twoL p = some (x, z) := by unfold twoL; rw [hq]
    rw [hq] at w2; simp only at w2
    have hP1 : r.1 = [x, z] := by rw [w2]
    have hP2 : r.2 = true := by rw [w2]
    have e0 : ([x, z] : List Int)[0]? = some x := rfl
    have e1 : ([x, z] : List Int)[0 + (1 : Int).toNat]? = some z := rfl
    clear w1 w2
    rw [if_pos hP2, hP1, hk, if_pos (by simp), e0, Option.bind_some, if_pos (by simp), e1, Option.bind_some, if_pos (by omega), if_pos (by omega), wrapB (by omega) (by omega), show (ps.length : Int) + 1 - 1 = (ps.length : Int) by omega]
    have := p_raysL hf x z (co p) (ps := ps) (by omega) (fun w hw => by have := hmem w (by simp [hw]); omega) fu [] 0 (Nat.zero_le _) rfl (by omega)
    rw [show ((0 : Nat) : Int) = 0 from rfl, List.drop_zero] at this
    rw [this, Option.bind_some]
    cases raysL ps <;> rfl
/-! ### Errors -/
def inG (X Z : Int) (x y : Int) : Prop := (0 ≤ x ∧ x < X) ∧ (0 ≤ y ∧ y < Z)
instance (X Z x y : Int) : Decidable (inG X Z x y) := by unfold inG; exact inferInstance
def rayE (X Z : Int) (r : Ry) : Int := if inG X Z r.1 r.2.1 ∧ inG X Z r.2.2.1 r.2.2.2.1 then 0 else 6
theorem p_holds (X Z x y : Int) : s_grid_holds X Z x y = some (decide (inG X Z x y)) := by
 unfold s_grid_holds inG
 by_cases h1 : 0 ≤ x <;> by_cases h2 : x < X <;> by_cases h3 : 0 ≤ y <;> by_cases h4 : y < Z <;> simp [h1, h2, h3, h4]
theorem p_rayE (X Z : Int) (r : Ry) : s_grid_rayError X Z r.1 r.2.1 r.2.2.1 r.2.2.2.1 r.2.2.2.2 = some (rayE X Z r) := by
 unfold s_grid_rayError rayE
 rw [p_holds, p_holds]
 by_cases h1 : inG X Z r.1 r.2.1 <;> by_cases h2 : inG X Z r.2.2.1 r.2.2.2.1 <;> simp [h1, h2]
def gridOk (X Z : Int) : Prop := (1 ≤ X ∧ X ≤ 12) ∧ (1 ≤ Z ∧ Z ≤ 12)
instance (X Z : Int) : Decidable (gridOk X Z) := by unfold gridOk; exact inferInstance
theorem r_rayE {X Z : Int} (hg : gridOk X Z) (r : Ry) : r4_RayErr r.1 r.2.1 r.2.2.1 r.2.2.2.1 r.2.2.2.2 X Z = some (rayE X Z r) := by
 obtain ⟨⟨g1, g2⟩, g3, g4⟩ := hg
 have cell : ∀ x y : Int, r4_isCell x y X Z = some (decide (inG X Z x y)) := fun x y => by
  unfold r4_isCell
  rw [x_within, x_within, Option.bind_some, Option.bind_some, wrapB (by omega) (by omega), wrapB (by omega) (by omega)]
  by_cases h1 : 0 ≤ x ∧ x < X
  ·rw [if_pos (by simp; omega)]
   by_cases h2 : 0 ≤ y ∧ y < Z
   ·rw [if_pos (by simp; omega), decide_eq_true (show inG X Z x y from ⟨h1, h2⟩)]
   ·rw [if_neg (by simp; omega), decide_eq_false (show ¬ inG X Z x y from fun c => h2 c.2)]
  ·rw [if_neg (by simp; omega), decide_eq_false (show ¬ inG X Z x y from fun c => h1 c.1)]
 unfold r4_RayErr rayE
 rw [cell, cell]
 by_cases h1 : inG X Z r.1 r.2.1 <;> by_cases h2 : inG X Z r.2.2.1 r.2.2.2.1 <;> simp [h1, h2]
def scE (X Z : Int) (l : List Ry) : Int := if gridOk X Z then (if (10 : Int) < (l.length : Int) then 8 else fstF (rayE X Z) l) else 2
theorem p_lim2 {fu : Nat} (hf : 100 ≤ fu) (X Z : Int) : s_grid_sizeError fu X Z = some (if gridOk X Z then 0 else 2) := by
 unfold s_grid_sizeError u_LimitsError u_FirstBad_int_LimitsError_1
 obtain ⟨o, e1, e2⟩ := fb_run [X, Z] (fun n i => u_FirstBad_int_LimitsError_1_L1 fu [X, Z] 1 12 (([X, Z] : List Int).length : Int) n (i : Int)) (Sum.elim (·.2) (fun _ => 0)) (fun a => limE a 1 12)
  (fun n => ⟨.inr (), by rw [u_FirstBad_int_LimitsError_1_L1, if_neg (by omega)], rfl⟩)
  (fun n i e he => by
   obtain ⟨h1, h2, h3⟩ := idx he
   have hi : i < 2 := (List.getElem?_eq_some_iff.1 he).1
   rw [u_FirstBad_int_LimitsError_1_L1, if_pos h1, if_pos h2, if_pos h1, h3, Option.bind_some]
   unfold u_LimitsError_1
   rw [x_limit, Option.bind_some, Option.bind_some]
   by_cases h0 : limE e 1 12 = 0
   ·rw [if_pos h0, wrapS (by omega)]; exact .inl ⟨h0, rfl⟩
   ·rw [if_neg h0]; exact .inr ⟨h0, _, rfl, rfl⟩) fu 0 (by simp) (by simp; omega)
 rw [show ((0 : Nat) : Int) = 0 from rfl] at e1
 rw [List.drop_zero] at e2
 have e3 : fstF (fun a => limE a 1 12) [X, Z] = if gridOk X Z then 0 else 2 := by
  unfold fstF fstF fstF
  by_cases h1 : 1 ≤ X ∧ X ≤ 12
  ·rw [limE_zero.2 h1, if_pos rfl]
   by_cases h2 : 1 ≤ Z ∧ Z ≤ 12
   ·rw [limE_zero.2 h2, if_pos rfl, if_pos (show gridOk X Z from ⟨h1, h2⟩)]
   ·rw [limE_two h2, if_neg (by decide), if_neg (show ¬ gridOk X Z from fun c => h2 c.2)]
  ·rw [limE_two h1, if_neg (by decide), if_neg (show ¬ gridOk X Z from fun c => h1 c.1)]
 rw [e1, ← e3, ← e2]
 cases o <;> rfl
theorem q_scene {fu : Nat} (hf : 100000 ≤ fu) (X Z : Int) (l : List Ry) (hl : l.length < 70000) : s_sceneError fu X Z l = some (scE X Z l) := by
 unfold s_sceneError s_CheckScene u_CheckList_SonarRay_grid_rayError u_FirstBad_SonarRay_grid_rayError scE
 rw [p_lim2 (by omega), Option.bind_some]
 by_cases hg : gridOk X Z
 ·rw [if_pos hg, if_pos rfl, if_pos hg, if_neg (by omega)]
  by_cases h5 : (10 : Int) < (l.length : Int)
  ·rw [if_pos h5, if_pos h5]; rfl
  ·rw [if_neg h5, if_neg h5]
   obtain ⟨o, e1, e2⟩ := fb_run l (fun n i => u_FirstBad_SonarRay_grid_rayError_L1 fu l X Z (l.length : Int) n (i : Int)) (Sum.elim (·.2) (fun _ => 0)) (rayE X Z)
    (fun n => ⟨.inr (), by rw [u_FirstBad_SonarRay_grid_rayError_L1, if_neg (by omega)], rfl⟩)
    (fun n i e he => by
     obtain ⟨h1, h2, h3⟩ := idx he
     rw [u_FirstBad_SonarRay_grid_rayError_L1, if_pos h1, if_pos h2, if_pos h1, h3, Option.bind_some, p_rayE, Option.bind_some]
     by_cases h0 : rayE X Z e = 0
     ·rw [if_pos h0, wrapS (by omega)]; exact .inl ⟨h0, rfl⟩
     ·rw [if_neg h0]; exact .inr ⟨h0, _, rfl, rfl⟩) fu 0 (by omega) (by omega)
   rw [show ((0 : Nat) : Int) = 0 from rfl] at e1
   rw [List.drop_zero] at e2
   rw [e1, ← e2]
   cases o <;> rfl
 ·rw [if_neg hg, if_neg (by decide), if_neg hg]; rfl
theorem q_rscene {fu : Nat} (hf : 100000 ≤ fu) (X Z : Int) (l : List Ry) (hl : l.length < 70000) : r4_SceneErr fu X Z l = some (scE X Z l) := by
 have hgr : r4_gridErr X Z = some (if gridOk X Z then 0 else 2) := by
  unfold r4_gridErr gridOk
  rw [x_within, x_within]
  by_cases h1 : 1 ≤ X ∧ X ≤ 12 <;> by_cases h2 : 1 ≤ Z ∧ Z ≤ 12 <;> simp [h1, h2]
 unfold r4_SceneErr r4_CheckScene scE
 rw [hgr, Option.bind_some]
 by_cases hg : gridOk X Z
 ·rw [if_pos hg, if_pos rfl, if_pos hg]
  by_cases h5 : (10 : Int) < (l.length : Int)
  ·rw [if_pos h5, if_pos h5]; rfl
  ·rw [if_neg h5, if_neg h5]
   obtain ⟨o, e1, e2⟩ := fb_run l (fun n i => r4_CheckScene_L1 fu l X Z n (i : Int)) (Sum.elim (·.2) (fun _ => 0)) (rayE X Z)
    (fun n => ⟨.inr (), by rw [r4_CheckScene_L1, if_neg (by omega)], rfl⟩)
    (fun n i e he => by
     obtain ⟨h1, h2, h3⟩ := idx he
     rw [r4_CheckScene_L1, if_pos h1, if_pos h2, h3, Option.bind_some, r_rayE hg, Option.bind_some]
     by_cases h0 : rayE X Z e = 0
     ·rw [if_pos h0, wrapS (by omega)]; exact .inl ⟨h0, rfl⟩
     ·rw [if_neg h0]; exact .inr ⟨h0, _, rfl, rfl⟩) fu 0 (by omega) (by omega)
   rw [show ((0 : Nat) : Int) = 0 from rfl] at e1
   rw [List.drop_zero] at e2
   rw [e1, ← e2]
   cases o <;> rfl
 ·rw [if_neg hg, if_neg (by decide), if_neg hg]; rfl
def scV (l : Option (Int × Int × List Ry)) : Int × Int × List Ry × Int := match l with
 | none => (0, 0, [], 7)
 | some (x, z, ks) => if scE x z ks = 0 then (x, z, ks, 0) else (0, 0, [], scE x z ks)
def parsedS (a : Int) : Int × Int × List Ry × Int := if (60000 : Int) < sln a then (0, 0, [], 8) else scV (sceneL (by' a))
theorem sceneL_len {a : List UInt8} {x z : Int} {ks : List Ry} (h : sceneL a = some (x, z, ks)) : ks.length ≤ a.length := by
 have hlen := splitL_len 59 a
 unfold sceneL at h
 cases hs : splitL 59 a with
 | nil => rw [hs] at h; cases h
 | cons p ps =>
  rw [hs] at h hlen
  simp only at h
  cases h2 : twoL p with
  | none => rw [h2] at h; cases h
  | some q =>
   rw [h2] at h
   simp only [Option.map_eq_some_iff] at h
   obtain ⟨m, h3, h4⟩ := h
   injection h4 with h4 h5
   injection h5 with h5 h6
   subst h6
   have := raysL_len h3
   rw [List.length_cons] at hlen
   omega
theorem p_parseScene {fu : Nat} (hf : 100000 ≤ fu) (a : Int) : s_ParseScene fu a = some (parsedS a) := by
 have hsl : sln a = ((by' a).length : Int) := rfl
 unfold s_ParseScene u_Parsed_SonarScene_readScene_sceneError parsedS
 by_cases h : (60000 : Int) < sln a
 ·rw [if_pos h, if_pos h]; rfl
 ·rw [if_neg h, if_neg h, p_readScene hf (by omega), Option.bind_some]
  cases hq : sceneL (by' a) with
  | none => rfl
  | some q =>
   obtain ⟨x, z, ks⟩ := q
   have hk := sceneL_len hq
   simp only [rdSc, scV, if_true]
   rw [q_scene hf x z ks (by omega), Option.bind_some]
   by_cases h0 : scE x z ks = 0
   ·rw [if_pos h0, if_pos h0]; rfl
   ·rw [if_neg h0, if_neg h0]; rfl
theorem r_raysL {fu : Nat} (hf : 100000 ≤ fu) {ps : List (List UInt8)} (hl : ps.length < 65000) (hw : ∀ w ∈ ps, w.length < 65000) (x z : Int) : ∀ (n : Nat) (v : List Ry) (i : Nat), 1 ≤ i → i ≤ ps.length → v.length < i → ps.length - i < n →
  r4_ParseScene_L1 fu (ps.map co) x z n v (i : Int) = some (match raysL (ps.drop i) with | none => .inl () | some l => .inr (v ++ l))
 | 0, v, i, _, _, _, h => by omega
 | n + 1, v, i, hi1, hi, hv, h => by
  rcases Nat.lt_or_ge i ps.length with h1 | h1
  ·have he : (ps.map co)[0 + ((i : Int)).toNat]? = some (co ps[i]) := by
    rw [Int.toNat_natCast, Nat.zero_add, List.getElem?_map, List.getElem?_eq_getElem h1]; rfl
   have hb := hw _ (List.getElem_mem h1)
   rw [r4_ParseScene_L1, if_pos (by rw [List.length_map]; omega), if_pos (by omega), he, Option.bind_some, show (5 : Int) = ((5 : Nat) : Int) from rfl, r_numbers hf 5 (by rw [St.by_co]; exact hb), Option.bind_some, St.by_co, List.drop_eq_getElem_cons h1, raysL]
   cases hq : wordsK 5 ps[i] with
   | none =>
    have hk : rayL ps[i] = none := by unfold rayL; rw [hq]
    rw [hk]; rfl
   | some l =>
    have hl5 := wordsK_len hq
    match l, hl5, hq with
    | [a, b, c, d, e], _, hq =>
     have hk : rayL ps[i] = if 1 < e then none else some (a, b, c, d, decide (e = 1)) := by unfold rayL; rw [hq]
     obtain ⟨P, hP⟩ : ∃ P, P = rdL (some [a, b, c, d, e]) := ⟨_, rfl⟩
     have hP1 : P.1 = [a, b, c, d, e] := by rw [hP]; rfl
     have hP2 : P.2 = true := by rw [hP]; rfl
     have e0 : ([a, b, c, d, e] : List Int)[0 + (0 : Int).toNat]? = some a := rfl
     have e1 : ([a, b, c, d, e] : List Int)[0 + (1 : Int).toNat]? = some b := rfl
     have e2 : ([a, b, c, d, e] : List Int)[0 + (2 : Int).toNat]? = some c := rfl
     have e3 : ([a, b, c, d, e] : List Int)[0 + (3 : Int).toNat]? = some d := rfl
     have e4 : ([a, b, c, d, e] : List Int)[0 + (4 : Int).toNat]? = some e := rfl
     rw [← hP, if_pos hP2, hP1, hk, if_pos (by simp), e4, Option.bind_some]
     by_cases hh : 1 < e
     ·rw [if_pos hh, if_pos hh]
     ·have ih := fun y => r_raysL hf hl hw x z n (v ++ [(a, b, c, d, y)]) (i + 1) (by omega) (by omega) (by simp; omega) (by omega)
      rw [if_neg hh, if_neg hh, if_pos (by simp), e0, Option.bind_some, if_pos (by simp), e1, Option.bind_some, if_pos (by simp), e2, Option.bind_some, if_pos (by simp), e3, Option.bind_some, wrapS (by omega), ih, ih]
      by_cases h1e : e = 1
      ·rw [if_pos h1e, if_pos (by omega), decide_eq_true h1e]
       cases raysL (ps.drop (i + 1)) with
       | none => rfl
       | some l => simp
      ·rw [if_neg h1e, if_pos (by omega), decide_eq_false h1e]
       cases raysL (ps.drop (i + 1)) with
       | none => rfl
       | some l => simp
  ·have : i = ps.length := by omega
   subst this
   rw [r4_ParseScene_L1, if_neg (by rw [List.length_map]; omega), List.drop_of_length_le (Nat.le_refl _), raysL]; simp
theorem r_parseScene {fu : Nat} (hf : 100000 ≤ fu) (a : Int) : r4_ParseScene fu a = some (parsedS a) := by
 have hsl : sln a = ((by' a).length : Int) := rfl
 unfold r4_ParseScene parsedS
 by_cases h : (60000 : Int) < sln a
 ·rw [if_pos h, if_pos h]
 ·have hlen := splitL_len 59 (by' a)
  have hmem := @splitL_mem 59 (by' a)
  rw [if_neg h, if_neg h, show (59 : Int) = ((59 : UInt8).toNat : Int) from rfl, z_cut hf 59 (by omega), Option.bind_some]
  have hq : ∀ x z ks, sceneL (by' a) = some (x, z, ks) → ks.length < 65000 := fun x z ks h => by have := sceneL_len h; omega
  unfold sceneL at hq ⊢
  cases hs : splitL 59 (by' a) with
  | nil => exact absurd hs (St.splitL_ne _ _)
  | cons p ps =>
   rw [hs] at hlen hmem hq
   rw [List.length_cons] at hlen
   have hp := hmem p (by simp)
   have e0 : ((p :: ps).map co)[0 + (0 : Int).toNat]? = some (co p) := rfl
   rw [if_pos (by simp), e0, Option.bind_some, show (2 : Int) = ((2 : Nat) : Int) from rfl, r_numbers hf 2 (by rw [St.by_co]; omega), Option.bind_some, St.by_co]
   cases h2 : wordsK 2 p with
   | none =>
    have hk : twoL p = none := by unfold twoL; rw [h2]
    simp only [hk]; rfl
   | some l =>
    have hl2 := wordsK_len h2
    match l, hl2, h2 with
    | [x, z], _, h2 =>
     have hk : twoL p = some (x, z) := by unfold twoL; rw [h2]
     obtain ⟨P, hP⟩ : ∃ P, P = rdL (some [x, z]) := ⟨_, rfl⟩
     have hP1 : P.1 = [x, z] := by rw [hP]; rfl
     have hP2 : P.2 = true := by rw [hP]; rfl
     have e0 : ([x, z] : List Int)[0 + (0 : Int).toNat]? = some x := rfl
     have e1 : ([x, z] : List Int)[0 + (1 : Int).toNat]? = some z := rfl
     simp only [hk] at hq ⊢
     rw [← hP, if_pos hP2, hP1, if_pos (by simp), e0, Option.bind_some, if_pos (by simp), e1, Option.bind_some, show (1 : Int) = ((1 : Nat) : Int) from rfl,
      r_raysL hf (ps := p :: ps) (by simp; omega) (fun w hw => by have := hmem w hw; omega) x z fu [] 1 (Nat.le_refl _) (by simp) (by simp) (by simp; omega), Option.bind_some, List.drop_one, List.tail_cons]
     cases h3 : raysL ps with
     | none => rfl
     | some ks =>
      have hkl := hq x z ks (by rw [h3]; rfl)
      simp only [Option.map_some, scV, List.nil_append]
      rw [q_rscene hf x z ks (by omega), Option.bind_some]
      by_cases h0 : scE x z ks = 0 <;> simp [h0]
end Go.Proofs.YtlfmdkmjfokgbaaGreatDoor

namespace Go.Proofs.YtlfmdkmjfokgbaaGreatDoor
open Go Go.RowKit Go.Lib Go.Proofs.YtlfmdkmjfokgbaaGreatDoor.Cm
open St (by' co splitL numL digV)
theorem r4_textL {fu : Nat} (hf : 30 ≤ fu) {l : List Int} (hr : rngL l) (hl : l.length < 1000) : ∀ (n : Nat) (s : List UInt8) (i : Nat), 1 ≤ i → i ≤ l.length → l.length - i < n → s.length + 22 * (l.length - i) ≤ 1000000 → r4_text_L1 fu l n (co s) (i : Int) = some (co (s ++ joinTail [32] ((l.drop i).map itoa)))
 | 0, s, i, _, _, h, _ => by omega
 | n + 1, s, i, hi1, hi, h, hs => by
  rcases Nat.lt_or_ge i l.length with h1 | h1
  ·have he : l[i]? = some l[i] := List.getElem?_eq_getElem h1
   obtain ⟨g1, g2, g3⟩ := idx he
   have hb := hr _ (List.getElem_mem h1)
   have hlen := itoa_length_le _ hb.1 hb.2
   have eB : (-17 : Int) = co [32] := rfl
   rw [r4_text_L1, if_pos g1, if_pos (by omega), eB, s_len, s_len, if_pos (by omega), if_pos (by simp), g3, Option.bind_some, z_decimal hf hb, Option.bind_some, s_cat, s_len, s_len, List.length_append, List.length_singleton, if_pos (by omega), if_pos (by omega), s_cat, wrapS (by omega),
    r4_textL hf hr hl n _ (i + 1) (by omega) (by omega) (by omega) (by simp only [List.length_append, List.length_singleton]; omega), List.drop_eq_getElem_cons h1]
   congr 2
   simp only [joinTail, List.map_cons, List.flatten_cons, List.append_assoc]
  ·have : i = l.length := by omega
   subst this
   rw [r4_text_L1, if_neg (by omega), List.drop_of_length_le (Nat.le_refl _)]; simp [joinTail]
theorem r4_sln0 : sln 0 = 0 := s_len []
theorem r4_scat0 (l : List UInt8) : scat 0 (co l) = co l := s_cat [] l
theorem r4_text1 {fu : Nat} (hf : 30 ≤ fu) {x : Int} {r : List Int} (hb : -9223372036854775808 ≤ x ∧ x ≤ 9223372036854775807) (n : Nat) : r4_text_L1 fu (x :: r) (n + 1) 0 0 = r4_text_L1 fu (x :: r) n (co (itoa x)) ((1 : Nat) : Int) := by
 have hlen := itoa_length_le _ hb.1 hb.2
 have hw : IntKind.wrap .i64 ((0 : Int) + 1) = ((1 : Nat) : Int) := by rw [wrapB (by omega) (by omega)]; rfl
 rw [r4_text_L1, if_pos (by simp), if_neg (by omega), if_pos (by omega), Int.toNat_zero, List.getElem?_cons_zero, Option.bind_some, z_decimal hf hb, Option.bind_some, s_len, r4_sln0, if_pos (by omega), if_pos (by omega), r4_scat0, hw]
theorem r4_textW {fu : Nat} (hf : 2000 ≤ fu) {l : List Int} (hr : rngL l) (hl : l.length < 1000) : r4_text fu l = some (co (wr l)) := by
 unfold r4_text
 match l, hr, hl with
 | [], _, _ =>
  obtain ⟨k, hk⟩ : ∃ k, fu = k + 1 := ⟨fu - 1, by omega⟩
  rw [show r4_text_L1 fu [] fu 0 0 = r4_text_L1 fu [] (k + 1) 0 0 from by rw [← hk], r4_text_L1, if_neg (by simp)]
  rfl
 | x :: r, hr, hl =>
  obtain ⟨k, hk⟩ : ∃ k, fu = k + 1 := ⟨fu - 1, by omega⟩
  have hb := hr x (by simp)
  have hlen := itoa_length_le _ hb.1 hb.2
  rw [show r4_text_L1 fu (x :: r) fu 0 0 = r4_text_L1 fu (x :: r) (k + 1) 0 0 from by rw [← hk], r4_text1 (by omega) hb]
  rw [List.length_cons] at hl
  rw [r4_textL (by omega) hr (by rw [List.length_cons]; exact hl) k (itoa x) 1 (Nat.le_refl _) (by rw [List.length_cons]; omega) (by rw [List.length_cons]; omega) (by rw [List.length_cons]; omega), Option.bind_some]
  unfold wr
  rw [List.map_cons, join_cons, List.drop_one, List.tail_cons]
def devsW (l : List Dv) : List UInt8 := join (l.map linkW) [59]
theorem devsW_len {l : List Dv} (h : rngK l) : (devsW l).length ≤ 67 * l.length := by
 have := join_len (c := 59) (l.map linkW) 66 (linkW_len h)
 rw [List.length_map] at this
 exact this
theorem p_fmtDL {fu : Nat} (hf : 2000 ≤ fu) {l : List Dv} (hr : rngK l) (hl : l.length < 1000) (p1 : Int) : ∀ (n : Nat) (v : List Int) (i : Nat), i ≤ l.length → v.length = l.length → l.length - i < n → u_Joined_SonarDevice_FormatDevices_1_L1 fu l p1 (l.length : Int) n v (i : Int) = some (v.take i ++ ((l.drop i).map linkW).map co)
 | 0, v, i, _, _, h => by omega
 | n + 1, v, i, hi, hv, h => by
  rcases Nat.lt_or_ge i l.length with h1 | h1
  ·obtain ⟨g1, g2, g3⟩ := idx (List.getElem?_eq_getElem h1)
   obtain ⟨k1, k2, k3⟩ := idx (List.getElem?_eq_getElem (l := v) (i := i) (by omega))
   have hw : s_FormatDevices_1 fu l[i].1 l[i].2.1 l[i].2.2 = some (co (linkW l[i])) := by
    unfold s_FormatDevices_1
    rw [p_written hf (hr _ (List.getElem_mem h1)) (by simp), Option.bind_some]; rfl
   rw [u_Joined_SonarDevice_FormatDevices_1_L1, if_pos g1, if_pos g2, if_pos g1, g3, Option.bind_some, hw, Option.bind_some, if_pos k1, k3, Option.bind_some, wrapS (by omega), Int.toNat_natCast, Nat.zero_add,
    p_fmtDL hf hr hl p1 n _ (i + 1) (by omega) (by rw [List.length_set]; exact hv) (by omega), List.drop_eq_getElem_cons h1]
   refine congrArg some ?_
   rw [List.take_succ, List.take_set_of_le (Nat.le_refl i), List.getElem?_set_self (by omega), List.append_assoc]; rfl
  ·have : i = l.length := by omega
   subst this
   rw [u_Joined_SonarDevice_FormatDevices_1_L1, if_neg (by omega), List.drop_of_length_le (Nat.le_refl _), List.take_of_length_le (by omega)]; simp
theorem p_fmtD {fu : Nat} (hf : 2000 ≤ fu) {l : List Dv} (hr : rngK l) (hl : l.length < 1000) : s_FormatDevices fu l = some (co (devsW l)) := by
 have hj := devsW_len hr
 unfold s_FormatDevices u_Joined_SonarDevice_FormatDevices_1
 rw [if_pos (by omega), if_pos (by omega)]
 have := p_fmtDL hf hr hl 30 fu (List.replicate l.length 0) 0 (Nat.zero_le _) (by simp) (by omega)
 rw [show ((0 : Nat) : Int) = 0 from rfl, List.drop_zero] at this
 rw [Int.toNat_natCast, this, Option.bind_some, List.take_zero, List.nil_append, s_join b_semi (by rw [List.length_map]; omega) (by unfold devsW at hj; omega)]
 rfl
theorem r_fmtDL {fu : Nat} (hf : 2000 ≤ fu) {l : List Dv} (hr : rngK l) (hl : l.length < 1000) : ∀ (n : Nat) (s : List UInt8) (i : Nat), 1 ≤ i → i ≤ l.length → l.length - i < n → s.length + 67 * (l.length - i) ≤ 1000000 → r4_FormatDevices_L1 fu l n (co s) (i : Int) = some (co (s ++ joinTail [59] ((l.drop i).map linkW)))
 | 0, s, i, _, _, h, _ => by omega
 | n + 1, s, i, hi1, hi, h, hs => by
  rcases Nat.lt_or_ge i l.length with h1 | h1
  ·obtain ⟨g1, g2, g3⟩ := idx (List.getElem?_eq_getElem h1)
   have hk := hr _ (List.getElem_mem h1)
   have hlk := wr_len hk
   simp only [List.length_cons, List.length_nil] at hlk
   have eB : (30 : Int) = co [59] := rfl
   rw [r4_FormatDevices_L1, if_pos g1, if_pos (by omega), eB, s_len, s_len, if_pos (by omega), if_pos (by simp), g3, Option.bind_some, r4_textW hf hk (by simp), Option.bind_some, s_cat, s_len, s_len, List.length_append, List.length_singleton, if_pos (by omega), if_pos (by omega), s_cat, wrapS (by omega),
    r_fmtDL hf hr hl n _ (i + 1) (by omega) (by omega) (by omega) (by simp only [List.length_append, List.length_singleton]; omega), List.drop_eq_getElem_cons h1]
   congr 2
   simp only [joinTail, List.map_cons, List.flatten_cons, List.append_assoc]
   rfl
  ·have : i = l.length := by omega
   subst this
   rw [r4_FormatDevices_L1, if_neg (by omega), List.drop_of_length_le (Nat.le_refl _)]; simp [joinTail]
theorem r_fmtD {fu : Nat} (hf : 2000 ≤ fu) {l : List Dv} (hr : rngK l) (hl : l.length < 1000) : r4_FormatDevices fu l = some (co (devsW l)) := by
 unfold r4_FormatDevices
 match l, hr, hl with
 | [], _, _ =>
  obtain ⟨k, hk⟩ : ∃ k, fu = k + 1 := ⟨fu - 1, by omega⟩
  rw [show r4_FormatDevices_L1 fu [] fu 0 0 = r4_FormatDevices_L1 fu [] (k + 1) 0 0 from by rw [← hk], r4_FormatDevices_L1, if_neg (by simp)]
  rfl
 | x :: r, hr, hl =>
  obtain ⟨k, hk⟩ : ∃ k, fu = k + 1 := ⟨fu - 1, by omega⟩
  have hb := hr x (by simp)
  have hlk := wr_len hb
  simp only [List.length_cons, List.length_nil] at hlk
  have hw : IntKind.wrap .i64 ((0 : Int) + 1) = ((1 : Nat) : Int) := by rw [wrapB (by omega) (by omega)]; rfl
  have h1 : r4_FormatDevices_L1 fu (x :: r) (k + 1) 0 0 = r4_FormatDevices_L1 fu (x :: r) k (co (linkW x)) ((1 : Nat) : Int) := by
   rw [r4_FormatDevices_L1, if_pos (by simp), if_neg (by omega), if_pos (by omega), Int.toNat_zero, List.getElem?_cons_zero, Option.bind_some, r4_textW hf hb (by simp), Option.bind_some, s_len, r4_sln0, if_pos (by omega), if_pos (by omega), r4_scat0, hw]
   rfl
  rw [show r4_FormatDevices_L1 fu (x :: r) fu 0 0 = r4_FormatDevices_L1 fu (x :: r) (k + 1) 0 0 from by rw [← hk], h1]
  rw [List.length_cons] at hl
  have hlw : (linkW x).length ≤ 66 := hlk
  rw [r_fmtDL hf hr (by rw [List.length_cons]; exact hl) k (linkW x) 1 (Nat.le_refl _) (by rw [List.length_cons]; omega) (by rw [List.length_cons]; omega) (by rw [List.length_cons]; omega), Option.bind_some]
  unfold devsW
  rw [List.map_cons, join_cons, List.drop_one, List.tail_cons]
/-! ### Scenes -/
def rayW (r : Ry) : List UInt8 := wr [r.1, r.2.1, r.2.2.1, r.2.2.2.1, if r.2.2.2.2 = true then 1 else 0]
def scW (X Z : Int) (l : List Ry) : List UInt8 := join (wr [X, Z] :: l.map rayW) [59]
def rngR (l : List Ry) : Prop := ∀ r ∈ l, rngL [r.1, r.2.1, r.2.2.1, r.2.2.2.1]
theorem rng5 {l : List Ry} (h : rngR l) {r : Ry} (hr : r ∈ l) (e : Int) (he : 0 ≤ e ∧ e ≤ 1) : rngL [r.1, r.2.1, r.2.2.1, r.2.2.2.1, e] := fun x hx => by
 have h' := h r hr
 simp only [List.mem_cons, List.not_mem_nil, or_false] at hx
 rcases hx with rfl | rfl | rfl | rfl | rfl
 ·exact h' _ (by simp)
 ·exact h' _ (by simp)
 ·exact h' _ (by simp)
 ·exact h' _ (by simp)
 ·omega
theorem rayW_len {l : List Ry} (h : rngR l) : ∀ y ∈ l.map rayW, y.length ≤ 110 := by
 intro y hy
 obtain ⟨k, hk, rfl⟩ := List.mem_map.1 hy
 exact wr_len (rng5 h hk _ (by split <;> omega))
theorem scW_len {X Z : Int} {l : List Ry} (h0 : rngL [X, Z]) (h : rngR l) : (scW X Z l).length ≤ 111 * (l.length + 1) := by
 have := join_len (c := 59) (wr [X, Z] :: l.map rayW) 110 (fun y hy => by
  rcases List.mem_cons.1 hy with rfl | hy
  ·have := wr_len h0; simp only [List.length_cons, List.length_nil] at this; omega
  ·exact rayW_len h y hy)
 rw [List.length_cons, List.length_map] at this
 exact this
theorem p_fmtSL {fu : Nat} (hf : 2000 ≤ fu) {l : List Ry} (hr : rngR l) (hl : l.length < 900) : ∀ (n : Nat) (v : List Int) (i : Nat), i ≤ l.length → v.length ≤ 1 + i → l.length - i < n → s_FormatScene_L1 fu l (l.length : Int) n v (i : Int) = some (v ++ ((l.drop i).map rayW).map co)
 | 0, v, i, _, _, h => by omega
 | n + 1, v, i, hi, hv, h => by
  rcases Nat.lt_or_ge i l.length with h1 | h1
  ·obtain ⟨g1, g2, g3⟩ := idx (List.getElem?_eq_getElem h1)
   have hm := List.getElem_mem h1
   have ih := fun y => p_fmtSL hf hr hl n (v ++ [y]) (i + 1) (by omega) (by rw [List.length_append, List.length_singleton]; omega) (by omega)
   by_cases hb : l[i].2.2.2.2 = true
   ·have hy : rayW l[i] = wr [l[i].1, l[i].2.1, l[i].2.2.1, l[i].2.2.2.1, 1] := by unfold rayW; rw [if_pos hb]
    rw [s_FormatScene_L1, if_pos g1, if_pos g2, if_pos g1, g3, Option.bind_some, if_pos hb, p_written hf (rng5 hr hm 1 (by omega)) (by simp), Option.bind_some, if_pos (by omega), wrapS (by omega), ih, List.drop_eq_getElem_cons h1, List.append_assoc, List.map_cons, List.map_cons, hy, List.singleton_append]
   ·have hy : rayW l[i] = wr [l[i].1, l[i].2.1, l[i].2.2.1, l[i].2.2.2.1, 0] := by unfold rayW; rw [if_neg hb]
    rw [s_FormatScene_L1, if_pos g1, if_pos g2, if_pos g1, g3, Option.bind_some, if_neg hb, p_written hf (rng5 hr hm 0 (by omega)) (by simp), Option.bind_some, if_pos (by omega), wrapS (by omega), ih, List.drop_eq_getElem_cons h1, List.append_assoc, List.map_cons, List.map_cons, hy, List.singleton_append]
  ·have : i = l.length := by omega
   subst this
   rw [s_FormatScene_L1, if_neg (by omega), List.drop_of_length_le (Nat.le_refl _)]; simp
theorem p_fmtS {fu : Nat} (hf : 2000 ≤ fu) {X Z : Int} {l : List Ry} (h0 : rngL [X, Z]) (hr : rngR l) (hl : l.length < 900) : s_FormatScene fu X Z l = some (co (scW X Z l)) := by
 have hlen := scW_len h0 hr
 unfold s_FormatScene
 have := p_fmtSL hf hr hl fu [co (wr [X, Z])] 0 (Nat.zero_le _) (by simp) (by omega)
 rw [show ((0 : Nat) : Int) = 0 from rfl, List.drop_zero] at this
 rw [p_written hf h0 (by simp), Option.bind_some, this, Option.bind_some]
 have hj := s_join (l := wr [X, Z] :: l.map rayW) b_semi (by rw [List.length_cons, List.length_map]; omega) (by unfold scW at hlen; omega)
 rw [List.map_cons] at hj
 rw [List.singleton_append, hj, Option.bind_some]
 rfl
theorem r_fmtSL {fu : Nat} (hf : 2000 ≤ fu) {X Z : Int} {l : List Ry} (hr : rngR l) (hl : l.length < 900) : ∀ (n : Nat) (s : List UInt8) (i : Nat), i ≤ l.length → l.length - i < n → s.length + 111 * (l.length - i) ≤ 1000000 → r4_FormatScene_L1 fu l X Z n (co s) (i : Int) = some (co (s ++ joinTail [59] ((l.drop i).map rayW)))
 | 0, s, i, _, h, _ => by omega
 | n + 1, s, i, hi, h, hs => by
  rcases Nat.lt_or_ge i l.length with h1 | h1
  ·obtain ⟨g1, g2, g3⟩ := idx (List.getElem?_eq_getElem h1)
   have hm := List.getElem_mem h1
   have hk0 := rng5 hr hm 0 (by omega)
   have hk1 := rng5 hr hm 1 (by omega)
   have hl0 := wr_len hk0
   have hl1 := wr_len hk1
   simp only [List.length_cons, List.length_nil] at hl0 hl1
   have eB : (30 : Int) = co [59] := rfl
   by_cases hb : l[i].2.2.2.2 = true
   ·have hy : rayW l[i] = wr [l[i].1, l[i].2.1, l[i].2.2.1, l[i].2.2.2.1, 1] := by unfold rayW; rw [if_pos hb]
    rw [r4_FormatScene_L1, if_pos g1, if_pos g2, g3, Option.bind_some, if_pos hb, eB, s_len, s_len, if_pos (by omega), if_pos (by simp), r4_textW hf hk1 (by simp), Option.bind_some, s_cat, s_len, s_len, List.length_append, List.length_singleton, if_pos (by omega), if_pos (by omega), s_cat, wrapS (by omega),
     r_fmtSL hf hr hl n _ (i + 1) (by omega) (by omega) (by simp only [List.length_append, List.length_singleton]; omega), List.drop_eq_getElem_cons h1, List.map_cons, hy]
    refine congrArg (fun y => some (co y)) ?_
    simp only [joinTail, List.map_cons, List.flatten_cons, List.append_assoc]
   ·have hy : rayW l[i] = wr [l[i].1, l[i].2.1, l[i].2.2.1, l[i].2.2.2.1, 0] := by unfold rayW; rw [if_neg hb]
    rw [r4_FormatScene_L1, if_pos g1, if_pos g2, g3, Option.bind_some, if_neg hb, eB, s_len, s_len, if_pos (by omega), if_pos (by simp), r4_textW hf hk0 (by simp), Option.bind_some, s_cat, s_len, s_len, List.length_append, List.length_singleton, if_pos (by omega), if_pos (by omega), s_cat, wrapS (by omega),
     r_fmtSL hf hr hl n _ (i + 1) (by omega) (by omega) (by simp only [List.length_append, List.length_singleton]; omega), List.drop_eq_getElem_cons h1, List.map_cons, hy]
    refine congrArg (fun y => some (co y)) ?_
    simp only [joinTail, List.map_cons, List.flatten_cons, List.append_assoc]
  ·have : i = l.length := by omega
   subst this
   rw [r4_FormatScene_L1, if_neg (by omega), List.drop_of_length_le (Nat.le_refl _)]; simp [joinTail]
theorem r_fmtS {fu : Nat} (hf : 2000 ≤ fu) {X Z : Int} {l : List Ry} (h0 : rngL [X, Z]) (hr : rngR l) (hl : l.length < 900) : r4_FormatScene fu X Z l = some (co (scW X Z l)) := by
 have hw := wr_len h0
 simp only [List.length_cons, List.length_nil] at hw
 unfold r4_FormatScene
 rw [r4_textW hf h0 (by simp), Option.bind_some]
 have := r_fmtSL (fu := fu) (X := X) (Z := Z) hf hr hl fu (wr [X, Z]) 0 (Nat.zero_le _) (by omega) (by omega)
 rw [show ((0 : Nat) : Int) = 0 from rfl, List.drop_zero] at this
 rw [this, Option.bind_some]
 unfold scW
 rw [join_cons]
/-! ### Again -/
theorem wr_not4 (l : List Int) : (59 : UInt8) ∉ wr l := by
 cases l with
 | nil => simp [wr, join_nil]
 | cons x l =>
  unfold wr
  rw [List.map_cons, join_cons]
  intro h
  have tm : ∀ {r : List (List UInt8)}, (59 : UInt8) ∈ joinTail [32] r → ∃ y ∈ r, (59 : UInt8) ∈ y := fun {r} => by
   induction r with
   | nil => intro h; simp [joinTail] at h
   | cons y r ih =>
    intro h
    have e : joinTail [32] (y :: r) = 32 :: (y ++ joinTail [32] r) := by simp [joinTail]
    rw [e] at h
    rcases List.mem_cons.1 h with h | h
    ·exact absurd h (by decide)
    ·rcases List.mem_append.1 h with h | h
     ·exact ⟨y, by simp, h⟩
     ·obtain ⟨z, hz, h⟩ := ih h; exact ⟨z, by simp [hz], h⟩
  rcases List.mem_append.1 h with h | h
  ·exact St.itoa_not' (by decide) h
  ·obtain ⟨y, hy, h⟩ := tm h
   obtain ⟨z, _, rfl⟩ := List.mem_map.1 hy
   exact St.itoa_not' (by decide) h
theorem dev_again {k : Dv} (h : okD k) : devL (linkW k) = some k := by
 obtain ⟨⟨h1, h2⟩, ⟨h3, h4⟩, h5, h6⟩ := h
 obtain ⟨a, b, c⟩ := k
 simp only at h1 h2 h3 h4 h5 h6
 unfold devL linkW
 have := words_again a [b, c] (fun y hy => by
  simp only [List.mem_cons, List.not_mem_nil, or_false] at hy
  rcases hy with rfl | rfl | rfl <;> omega)
 rw [show ([b, c] : List Int).length + 1 = 3 from rfl] at this
 rw [this]
theorem devs_again : ∀ {ks : List Dv}, (∀ k ∈ ks, okD k) → devsL (ks.map linkW) = some ks
 | [], _ => rfl
 | k :: ks, h => by
  rw [List.map_cons, devsL, dev_again (h k (by simp)), devs_again fun x hx => h x (by simp [hx])]
  rfl
theorem d_again {l : List Dv} (h : devE l = 0) : l.length ≤ 5 ∧ rngK l ∧ parsedD (co (devsW l)) = (l, 0) := by
 have h' := h
 unfold devE at h'
 split at h'
 ·cases h'
 ·rename_i hne
  split at h'
  ·cases h'
  ·have hok : ∀ k ∈ l, okD k := fun k hk => by
    have := fstF_ok h' k hk
    unfold dvE at this
    split at this
    ·assumption
    ·cases this
   have hrK : rngK l := fun k hk x hx => by
    obtain ⟨⟨h1, h2⟩, ⟨h3, h4⟩, h5, h6⟩ := hok k hk
    simp only [List.mem_cons, List.not_mem_nil, or_false] at hx
    rcases hx with rfl | rfl | rfl <;> omega
   refine ⟨by omega, hrK, ?_⟩
   have hlen := devsW_len hrK
   have hL : devsL (splitL 59 (devsW l)) = some l := by
    cases l with
    | nil => exact absurd rfl hne
    | cons x r =>
     unfold devsW
     rw [List.map_cons, St.splitL_join 59 (linkW x) (r.map linkW) (wr_not4 _) (fun y hy => by obtain ⟨k, _, rfl⟩ := List.mem_map.1 hy; exact wr_not4 _), ← List.map_cons, devs_again hok]
   unfold parsedD
   rw [s_len, if_neg (by omega), St.by_co, hL]
   simp only [devV]
   rw [if_pos h]
theorem ray_again {X Z : Int} (hg : gridOk X Z) {r : Ry} (h : rayE X Z r = 0) : rayL (rayW r) = some r := by
 unfold rayE at h
 split at h
 ·rename_i hc
  obtain ⟨⟨h1, h2⟩, h3, h4⟩ := hc
  obtain ⟨⟨g1, g2⟩, g3, g4⟩ := hg
  obtain ⟨a, b, c, d, e⟩ := r
  simp only at h1 h2 h3 h4
  have := words_again a [b, c, d, if e = true then 1 else 0] (fun y hy => by
   simp only [List.mem_cons, List.not_mem_nil, or_false] at hy
   rcases hy with rfl | rfl | rfl | rfl | rfl
   ·omega
   ·omega
   ·omega
   ·omega
   ·split <;> omega)
  rw [show ([b, c, d, if e = true then 1 else 0] : List Int).length + 1 = 5 from rfl] at this
  unfold rayL rayW
  simp only
  rw [this]
  simp only
  cases e <;> rfl
 ·cases h
theorem rays_again {X Z : Int} (hg : gridOk X Z) : ∀ {l : List Ry}, (∀ k ∈ l, rayE X Z k = 0) → raysL (l.map rayW) = some l
 | [], _ => rfl
 | k :: ks, h => by
  rw [List.map_cons, raysL, ray_again hg (h k (by simp)), rays_again hg fun x hx => h x (by simp [hx])]
  rfl
theorem sc_again {X Z : Int} {l : List Ry} (h : scE X Z l = 0) : l.length ≤ 10 ∧ rngL [X, Z] ∧ rngR l ∧ parsedS (co (scW X Z l)) = (X, Z, l, 0) := by
 have h' := h
 unfold scE at h'
 split at h'
 ·rename_i hg
  split at h'
  ·cases h'
  ·have hok := fun k hk => fstF_ok h' k hk
   have hg' := hg
   obtain ⟨⟨g1, g2⟩, g3, g4⟩ := hg'
   have hr0 : rngL [X, Z] := fun x hx => by
    simp only [List.mem_cons, List.not_mem_nil, or_false] at hx
    rcases hx with rfl | rfl <;> omega
   have hrR : rngR l := fun r hr x hx => by
    have := hok r hr
    unfold rayE at this
    split at this
    ·rename_i hc
     obtain ⟨⟨h1, h2⟩, h3, h4⟩ := hc
     simp only [List.mem_cons, List.not_mem_nil, or_false] at hx
     rcases hx with rfl | rfl | rfl | rfl <;> omega
    ·cases this
   refine ⟨by omega, hr0, hrR, ?_⟩
   have hlen := scW_len hr0 hrR
   have hL : sceneL (scW X Z l) = some (X, Z, l) := by
    unfold sceneL scW
    rw [St.splitL_join 59 (wr [X, Z]) (l.map rayW) (wr_not4 _) (fun y hy => by obtain ⟨k, _, rfl⟩ := List.mem_map.1 hy; exact wr_not4 _)]
    have h2 : twoL (wr [X, Z]) = some (X, Z) := by
     have := words_again X [Z] (fun y hy => by
      simp only [List.mem_cons, List.not_mem_nil, or_false] at hy
      rcases hy with rfl | rfl <;> omega)
     rw [show ([Z] : List Int).length + 1 = 2 from rfl] at this
     unfold twoL
     rw [this]
    simp only [h2, rays_again hg hok, Option.map_some]
   unfold parsedS
   rw [s_len, if_neg (by omega), St.by_co, hL]
   simp only [scV]
   rw [if_pos h]
 ·cases h'
theorem same_dev {fu : Nat} {l : List Dv} (hl : l.length < fu) (hk : l.length < 70000) : r4_SameDevices fu l l = some true := by
 have : ∀ (n i : Nat), i ≤ l.length → l.length - i < n → r4_SameDevices_L1 fu l l n (i : Int) = some (.inr ()) := by
  intro n
  induction n with
  | zero => intro i _ h; omega
  | succ n ih =>
   intro i hi h
   rcases Nat.lt_or_ge i l.length with h1 | h1
   ·obtain ⟨g1, g2, g3⟩ := idx (List.getElem?_eq_getElem h1)
    rw [r4_SameDevices_L1, if_pos g1, if_pos g2, g3, Option.bind_some, if_pos g1, Option.bind_some, if_pos rfl, if_pos rfl, if_pos rfl, wrapS (by omega)]
    exact ih (i + 1) (by omega) (by omega)
   ·rw [r4_SameDevices_L1, if_neg (by omega)]
 unfold r4_SameDevices
 have := this fu 0 (Nat.zero_le _) (by omega)
 rw [show ((0 : Nat) : Int) = 0 from rfl] at this
 rw [if_pos rfl, this]; rfl
theorem same_sc {fu : Nat} {l : List Ry} (hl : l.length < fu) (hk : l.length < 70000) (X Z : Int) : r4_SameScene fu X Z l X Z l = some true := by
 have : ∀ (n i : Nat), i ≤ l.length → l.length - i < n → r4_SameScene_L1 fu l l X Z X Z n (i : Int) = some (.inr ()) := by
  intro n
  induction n with
  | zero => intro i _ h; omega
  | succ n ih =>
   intro i hi h
   rcases Nat.lt_or_ge i l.length with h1 | h1
   ·obtain ⟨g1, g2, g3⟩ := idx (List.getElem?_eq_getElem h1)
    rw [r4_SameScene_L1, if_pos g1, if_pos g2, g3, Option.bind_some, if_pos g1, Option.bind_some, if_pos rfl, if_pos rfl, if_pos rfl, if_pos rfl, wrapS (by omega)]
    have := ih (i + 1) (by omega) (by omega)
    rw [this]
    by_cases hb : l[i].2.2.2.2 = true
    ·rw [if_pos hb, if_pos hb]
    ·rw [if_neg hb, if_neg hb]
   ·rw [r4_SameScene_L1, if_neg (by omega)]
 unfold r4_SameScene
 have := this fu 0 (Nat.zero_le _) (by omega)
 rw [show ((0 : Nat) : Int) = 0 from rfl] at this
 rw [if_pos rfl, if_pos rfl, if_pos rfl, this]; rfl
theorem parsedD_len (a : Int) : (parsedD a).1.length ≤ 65000 := by
 have hsl : sln a = ((by' a).length : Int) := rfl
 unfold parsedD
 by_cases h : (60000 : Int) < sln a
 ·rw [if_pos h]; simp
 ·rw [if_neg h]
  cases hq : devsL (splitL 59 (by' a)) with
  | none => simp [devV]
  | some l =>
   have h1 := devsL_len hq
   have h2 := splitL_len 59 (by' a)
   simp only [devV]
   split
   ·simp only; omega
   ·simp
theorem parsedS_len (a : Int) : (parsedS a).2.2.1.length ≤ 65000 := by
 have hsl : sln a = ((by' a).length : Int) := rfl
 unfold parsedS
 by_cases h : (60000 : Int) < sln a
 ·rw [if_pos h]; simp
 ·rw [if_neg h]
  cases hq : sceneL (by' a) with
  | none => simp [scV]
  | some q =>
   obtain ⟨x, z, ks⟩ := q
   have := sceneL_len hq
   simp only [scV]
   split
   ·simp only; omega
   ·simp
theorem sonar_true {fu : Nat} (hf : 100000 ≤ fu) {l : List Dv} {X Z : Int} {rs : List Ry} (s : Int) (hD : rngK l) (h0 : rngL [X, Z]) (hR : rngR rs) : l4_SonarStrings fu l X Z rs s = some true := by
 unfold l4_SonarStrings l4_few l4_rays
 rw [show l4_awake = some true from rfl, Option.bind_some, if_pos rfl]
 by_cases hk : (l.length : Int) ≤ 7
 ·rw [if_pos hk, Option.bind_some, if_pos rfl]
  by_cases hb : (rs.length : Int) ≤ 12
  ·rw [if_pos hb, Option.bind_some, if_pos rfl]
   by_cases c1 : (200 : Int) < sln s
   ·rw [if_pos c1]
   ·have cpD : r4_CopyDevices l = some l := by unfold r4_CopyDevices; rw [if_pos (by omega)]
    have cpS : r4_CopyScene X Z rs = some (X, Z, rs) := by unfold r4_CopyScene; rw [if_pos (by omega)]
    have tail : ∀ {q : Option Bool}, (q = Option.bind (r4_SceneErr fu X Z rs) fun r38 => if r38 = (0 : Int) then (Option.bind (s_ParseScene fu (co (scW X Z rs))) fun r40 => if r40.2.2.2 = (0 : Int) then (Option.bind (r4_SameScene fu r40.1 r40.2.1 r40.2.2.1 X Z rs) fun r42 => if r42 = true then (some true) else none) else none) else (some true)) → q = some true := by
     intro q hq
     rw [hq, q_rscene hf X Z rs (by omega), Option.bind_some]
     by_cases hE : scE X Z rs = 0
     ·obtain ⟨g1, g2, g3, g4⟩ := sc_again hE
      rw [if_pos hE, p_parseScene hf, Option.bind_some, g4, if_pos rfl, same_sc (by show rs.length < fu; omega) (by show rs.length < 70000; omega), Option.bind_some, if_pos rfl]
     ·rw [if_neg hE]
    rw [if_neg c1, cpD, Option.bind_some, p_fmtD (by omega) hD (by omega), Option.bind_some, cpS, Option.bind_some, p_fmtS (by omega) h0 hR (by omega), Option.bind_some, p_parseDevices hf, Option.bind_some, p_parseScene hf s, Option.bind_some, r_parseDevices hf, Option.bind_some, r_parseScene hf, Option.bind_some, r_fmtD (by omega) hD (by omega), Option.bind_some, if_pos rfl, r_fmtS (by omega) h0 hR (by omega), Option.bind_some, if_pos rfl, if_pos rfl,
     same_dev (by have := parsedD_len s; omega) (by have := parsedD_len s; omega), Option.bind_some, if_pos rfl, if_pos rfl, same_sc (by have := parsedS_len s; omega) (by have := parsedS_len s; omega), Option.bind_some, if_pos rfl, q_rdevs hf l (by omega), Option.bind_some]
    by_cases hE : devE l = 0
    ·obtain ⟨g1, g2, g3⟩ := d_again hE
     rw [if_pos hE, p_parseDevices hf, Option.bind_some, g3, if_pos rfl, same_dev (by show l.length < fu; omega) (by show l.length < 70000; omega), Option.bind_some, if_pos rfl]
     exact tail rfl
    ·rw [if_neg hE]
     exact tail rfl
  ·rw [if_neg hb, Option.bind_some, if_neg (by simp)]
 ·rw [if_neg hk, Option.bind_some, if_neg (by simp)]
end Go.Proofs.YtlfmdkmjfokgbaaGreatDoor
