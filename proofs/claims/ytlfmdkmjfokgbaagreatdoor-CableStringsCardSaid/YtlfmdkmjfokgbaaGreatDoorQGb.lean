/-
  Lines of cable and boxes of currents as strings: the program and the document write and read the same.
-/
import Derived.Test.YtlfmdkmjfokgbaaGreatDoorZG1f
import Derived.Test.YtlfmdkmjfokgbaaGreatDoorZG1l
set_option linter.all false
namespace Go.Proofs.YtlfmdkmjfokgbaaGreatDoor
open Go Go.RowKit Go.Lib Go.Proofs.YtlfmdkmjfokgbaaGreatDoor.Cm
open St (by' co splitL numL digV)
theorem splitL_mem {c : UInt8} {l : List UInt8} : ∀ w ∈ splitL c l, w.length ≤ l.length := by
  have : ∀ (l acc : List UInt8), ∀ w ∈ St.cutGo c acc l, w.length ≤ acc.length + l.length := fun l => by
    induction l with
    | nil => intro acc w hw; simp [St.cutGo] at hw; subst hw; simp
    | cons b l ih =>
      intro acc w hw
      rw [St.cutGo] at hw
      split at hw
      · rcases List.mem_cons.1 hw with rfl | hw
        · simp
        · have := ih [] w hw; simp at this ⊢; omega
      · have := ih (acc ++ [b]) w hw; simp at this ⊢; omega
  intro w hw
  have := this l [] w hw
  simpa using this
theorem r_parseL {fu : Nat} (hf : 100000 ≤ fu) {d : Int} (hd : 1 ≤ d ∧ d ≤ 15) (ws : List Int) (hw : ws.length < 65500) (hwl : ∀ w ∈ ws, (by' w).length < 65000) : ∀ (n : Nat) (v : List Int) (i : Nat), i ≤ ws.length → v.length = i → ws.length - i < n →
    r1_parse_L1 fu d ws n v (i : Int) = some (match numsU d [] i ((ws.map by').drop i) with | none => .inl () | some l => .inr (v ++ l))
  | 0, v, i, _, _, h => by omega
  | n + 1, v, i, hi, hv, h => by
    rcases Nat.lt_or_ge i ws.length with h1 | h1
    · have he : ws[i]? = some ws[i] := List.getElem?_eq_getElem h1
      obtain ⟨g1, g2, g3⟩ := idx he
      have hdr : (ws.map by').drop i = by' ws[i] :: (ws.map by').drop (i + 1) := by
        rw [List.drop_eq_getElem_cons (by rw [List.length_map]; exact h1), List.getElem_map]
      have hb := hwl _ (List.getElem_mem h1)
      rw [r1_parse_L1, if_pos g1, if_pos g2, g3, Option.bind_some, z_number (by omega) _ hd (by omega), Option.bind_some, hdr, numsU]
      cases hnum : numL d (by' ws[i]) with
      | none => rfl
      | some m =>
        simp only [rdN, if_true]
        rw [if_pos (by omega), wrapS (by omega), r_parseL hf hd ws hw hwl n _ (i + 1) (by omega) (by simp; omega) (by omega), if_neg (fun c => nomatch c.2)]
        cases numsU d [] (i + 1) ((ws.map by').drop (i + 1)) with
        | none => rfl
        | some l => simp
    · have : i = ws.length := by omega
      subst this
      rw [r1_parse_L1, if_neg (by omega), List.drop_of_length_le (by simp), numsU]; simp
theorem r_parse {fu : Nat} (hf : 100000 ≤ fu) {d : Int} (hd : 1 ≤ d ∧ d ≤ 15) {a : Int} (ha : (by' a).length < 65000) : r1_parse fu a d = some (rdL (numsU d [] 0 (splitL 32 (by' a)))) := by
  have hlen := splitL_len 32 (by' a)
  unfold r1_parse
  rw [show (32 : Int) = ((32 : UInt8).toNat : Int) from rfl, z_cut hf 32 ha, Option.bind_some]
  have := r_parseL hf hd ((splitL 32 (by' a)).map co) (by rw [List.length_map]; omega) (fun w hw => by
    obtain ⟨x, hx, rfl⟩ := List.mem_map.1 hw
    rw [St.by_co]; have := splitL_mem x hx; omega) fu [] 0 (Nat.zero_le _) rfl (by rw [List.length_map]; omega)
  rw [show ((0 : Nat) : Int) = 0 from rfl, map_by_co, List.drop_zero] at this
  rw [this, Option.bind_some]
  cases numsU d [] 0 (splitL 32 (by' a)) <;> rfl
/-! ### Writing -/
def linkW (k : Lk) : List UInt8 := wr [k.1, k.2.1, k.2.2]
def lineW (X Z : Int) (ks : List Lk) : List UInt8 := join (wr [X, Z] :: ks.map linkW) [59]
def rngK (ks : List Lk) : Prop := ∀ k ∈ ks, rngL [k.1, k.2.1, k.2.2]
theorem linkW_len {ks : List Lk} (h : rngK ks) : ∀ y ∈ ks.map linkW, y.length ≤ 66 := by
  intro y hy
  obtain ⟨k, hk, rfl⟩ := List.mem_map.1 hy
  exact wr_len (h k hk)
theorem lineW_len {X Z : Int} {ks : List Lk} (h0 : rngL [X, Z]) (h : rngK ks) : (lineW X Z ks).length ≤ 67 * (ks.length + 1) := by
  have := join_len (c := 59) (wr [X, Z] :: ks.map linkW) 66 (fun y hy => by
    rcases List.mem_cons.1 hy with rfl | hy
    · have := wr_len h0; simp only [List.length_cons, List.length_nil] at this; omega
    · exact linkW_len h y hy)
  rw [List.length_cons, List.length_map] at this
  exact this
theorem p_fmtL {fu : Nat} (hf : 2000 ≤ fu) {ks : List Lk} (hr : rngK ks) (hl : ks.length < 900) : ∀ (n : Nat) (v : List Int) (i : Nat), i ≤ ks.length → v.length ≤ 1 + i → ks.length - i < n → c_FormatLine_L1 fu ks (ks.length : Int) n v (i : Int) = some (v ++ ((ks.drop i).map linkW).map co)
  | 0, v, i, _, _, h => by omega
  | n + 1, v, i, hi, hv, h => by
    rcases Nat.lt_or_ge i ks.length with h1 | h1
    · obtain ⟨g1, g2, g3⟩ := idx (List.getElem?_eq_getElem h1)
      rw [c_FormatLine_L1, if_pos g1, if_pos g2, if_pos g1, g3, Option.bind_some, p_written hf (hr _ (List.getElem_mem h1)) (by simp), Option.bind_some, if_pos (by omega), wrapS (by omega),
        p_fmtL hf hr hl n _ (i + 1) (by omega) (by rw [List.length_append, List.length_singleton]; omega) (by omega), List.drop_eq_getElem_cons h1, List.append_assoc]
      rfl
    · have : i = ks.length := by omega
      subst this
      rw [c_FormatLine_L1, if_neg (by omega), List.drop_of_length_le (Nat.le_refl _)]; simp
theorem p_fmt {fu : Nat} (hf : 2000 ≤ fu) {X Z : Int} {ks : List Lk} (h0 : rngL [X, Z]) (hr : rngK ks) (hl : ks.length < 900) : c_FormatLine fu X Z ks = some (co (lineW X Z ks)) := by
  have hlen := lineW_len h0 hr
  unfold c_FormatLine
  have := p_fmtL hf hr hl fu [co (wr [X, Z])] 0 (Nat.zero_le _) (by simp) (by omega)
  rw [show ((0 : Nat) : Int) = 0 from rfl, List.drop_zero] at this
  rw [p_written hf h0 (by simp), Option.bind_some, this, Option.bind_some]
  have hj := s_join (l := wr [X, Z] :: ks.map linkW) b_semi (by rw [List.length_cons, List.length_map]; omega) (by unfold lineW at hlen; omega)
  rw [List.map_cons] at hj
  rw [List.singleton_append, hj, Option.bind_some]
  rfl
theorem r_fmtL {fu : Nat} (hf : 2000 ≤ fu) {X Z : Int} {ks : List Lk} (hr : rngK ks) (hl : ks.length < 900) : ∀ (n : Nat) (s : List UInt8) (i : Nat), i ≤ ks.length → ks.length - i < n → s.length + 67 * (ks.length - i) ≤ 1000000 → r1_FormatLine_L1 fu ks X Z n (co s) (i : Int) = some (co (s ++ joinTail [59] ((ks.drop i).map linkW)))
  | 0, s, i, _, h, _ => by omega
  | n + 1, s, i, hi, h, hs => by
    rcases Nat.lt_or_ge i ks.length with h1 | h1
    · obtain ⟨g1, g2, g3⟩ := idx (List.getElem?_eq_getElem h1)
      have hk := hr _ (List.getElem_mem h1)
      have hlk := wr_len hk
      simp only [List.length_cons, List.length_nil] at hlk
      have eB : (30 : Int) = co [59] := rfl
      rw [r1_FormatLine_L1, if_pos g1, if_pos g2, g3, Option.bind_some, eB, s_len, s_len, if_pos (by omega), if_pos (by simp), r1_joinedW hf hk (by simp), Option.bind_some, s_cat, s_len, s_len, List.length_append, List.length_singleton, if_pos (by omega), if_pos (by omega), s_cat, wrapS (by omega),
        r_fmtL hf hr hl n _ (i + 1) (by omega) (by omega) (by simp only [List.length_append, List.length_singleton]; omega), List.drop_eq_getElem_cons h1]
      congr 2
      simp only [joinTail, List.map_cons, List.flatten_cons, List.append_assoc]
      rfl
    · have : i = ks.length := by omega
      subst this
      rw [r1_FormatLine_L1, if_neg (by omega), List.drop_of_length_le (Nat.le_refl _)]; simp [joinTail]
theorem r_fmt {fu : Nat} (hf : 2000 ≤ fu) {X Z : Int} {ks : List Lk} (h0 : rngL [X, Z]) (hr : rngK ks) (hl : ks.length < 900) : r1_FormatLine fu X Z ks = some (co (lineW X Z ks)) := by
  have hw := wr_len h0
  simp only [List.length_cons, List.length_nil] at hw
  unfold r1_FormatLine
  rw [r1_joinedW hf h0 (by simp), Option.bind_some]
  have := r_fmtL (fu := fu) (X := X) (Z := Z) hf hr hl fu (wr [X, Z]) 0 (Nat.zero_le _) (by omega) (by omega)
  rw [show ((0 : Nat) : Int) = 0 from rfl, List.drop_zero] at this
  rw [this, Option.bind_some]
  unfold lineW
  rw [join_cons]
def ends (b : List Rg) : List Int := b.flatMap fun r => [r.1, r.2]
theorem p_boxL (fu : Nat) {b : List Rg} (hl : b.length < 900) : ∀ (n : Nat) (v : List Int) (i : Nat), i ≤ b.length → v.length = 2 * i → b.length - i < n → c_FormatBox_L1 fu b (b.length : Int) n v (i : Int) = some (v ++ ends (b.drop i))
  | 0, v, i, _, _, h => by omega
  | n + 1, v, i, hi, hv, h => by
    rcases Nat.lt_or_ge i b.length with h1 | h1
    · obtain ⟨g1, g2, g3⟩ := idx (List.getElem?_eq_getElem h1)
      rw [c_FormatBox_L1, if_pos g1, if_pos g2, if_pos g1, g3, Option.bind_some, if_pos (by omega), wrapS (by omega), p_boxL fu hl n _ (i + 1) (by omega) (by simp; omega) (by omega), List.drop_eq_getElem_cons h1, List.append_assoc]
      rfl
    · have : i = b.length := by omega
      subst this
      rw [c_FormatBox_L1, if_neg (by omega), List.drop_of_length_le (Nat.le_refl _)]; simp [ends]
theorem r_boxL (fu : Nat) {b : List Rg} (hl : b.length < 900) : ∀ (n : Nat) (v : List Int) (i : Nat), i ≤ b.length → v.length = 2 * i → b.length - i < n → r1_FormatBox_L1 fu b n v (i : Int) = some (v ++ ends (b.drop i))
  | 0, v, i, _, _, h => by omega
  | n + 1, v, i, hi, hv, h => by
    rcases Nat.lt_or_ge i b.length with h1 | h1
    · obtain ⟨g1, g2, g3⟩ := idx (List.getElem?_eq_getElem h1)
      rw [r1_FormatBox_L1, if_pos g1, if_pos g2, g3, Option.bind_some, if_pos (by omega), wrapS (by omega), r_boxL fu hl n _ (i + 1) (by omega) (by simp; omega) (by omega), List.drop_eq_getElem_cons h1, List.append_assoc]
      rfl
    · have : i = b.length := by omega
      subst this
      rw [r1_FormatBox_L1, if_neg (by omega), List.drop_of_length_le (Nat.le_refl _)]; simp [ends]
theorem ends_len (b : List Rg) : (ends b).length = 2 * b.length := by
  induction b with
  | nil => rfl
  | cons r b ih =>
    have : ends (r :: b) = r.1 :: r.2 :: ends b := rfl
    rw [this, List.length_cons, List.length_cons, List.length_cons, ih]; omega
theorem p_box {fu : Nat} (hf : 2000 ≤ fu) {b : List Rg} (hr : rngL (ends b)) (hl : b.length < 400) : c_FormatBox fu b = some (co (wr (ends b))) := by
  unfold c_FormatBox
  have := p_boxL fu (b := b) (by omega) fu [] 0 (Nat.zero_le _) rfl (by omega)
  rw [show ((0 : Nat) : Int) = 0 from rfl, List.drop_zero, List.nil_append] at this
  rw [this, Option.bind_some, p_written hf hr (by rw [ends_len]; omega), Option.bind_some]
theorem r_box {fu : Nat} (hf : 2000 ≤ fu) {b : List Rg} (hr : rngL (ends b)) (hl : b.length < 400) : r1_FormatBox fu b = some (co (wr (ends b))) := by
  unfold r1_FormatBox
  have := r_boxL fu (b := b) (by omega) fu [] 0 (Nat.zero_le _) rfl (by omega)
  rw [show ((0 : Nat) : Int) = 0 from rfl, List.drop_zero, List.nil_append] at this
  rw [this, Option.bind_some, r1_joinedW hf hr (by rw [ends_len]; omega), Option.bind_some]
/-! ### Reading lines -/
def three (u : List Int) (ws : List (List UInt8)) : Option Lk := match numsU 5 u 0 ws with
  | some [a, b, c] => some (a, b, c)
  | _ => none
def linkL (w : List UInt8) : Option Lk := three [0, 2] (splitL 32 w)
theorem three_none {u : List Int} {ws : List (List UInt8)} (h : ws.length ≠ 3) : three u ws = none := by
  unfold three
  split
  · rename_i a b c he
    have := numsU_len he
    exact absurd this.symm h
  · rfl
theorem three_eq (ws : List (List UInt8)) : three [0, 2] ws = match three [] ws with
    | some (a, b, c) => if a < 0 then none else if c < 0 then none else some (a, b, c)
    | none => none := by
  by_cases h : ws.length = 3
  · match ws, h with
    | [x, y, z], _ =>
      unfold three
      simp only [numsU]
      cases numL 5 x with
      | none => rfl
      | some a => cases numL 5 y with
        | none => by_cases h1 : a < 0 <;> simp [h1]
        | some b => cases numL 5 z with
          | none => by_cases h1 : a < 0 <;> simp [h1]
          | some c => by_cases h1 : a < 0 <;> by_cases h2 : c < 0 <;> simp [h1, h2]
  · rw [three_none h, three_none h]
def linksL : List (List UInt8) → Option (List Lk)
  | [] => some []
  | w :: r => match linkL w with
    | none => none
    | some k => (linksL r).map (k :: ·)
def two (ws : List (List UInt8)) : Option (Int × Int) := match numsU 5 [] 0 ws with
  | some [a, b] => some (a, b)
  | _ => none
theorem two_none {ws : List (List UInt8)} (h : ws.length ≠ 2) : two ws = none := by
  unfold two
  split
  · rename_i a b he
    have := numsU_len he
    exact absurd this.symm h
  · rfl
def lineL (l : List UInt8) : Option (Int × Int × List Lk) := match splitL 59 l with
  | [] => none
  | p :: ps => match two (splitL 32 p) with
    | none => none
    | some (x, z) => (linksL ps).map fun ks => (x, z, ks)
theorem linksL_len : ∀ {ps : List (List UInt8)} {ks : List Lk}, linksL ps = some ks → ks.length = ps.length
  | [], ks, h => by injection h with h; subst h; rfl
  | w :: r, ks, h => by
    rw [linksL] at h
    split at h
    · cases h
    · rw [Option.map_eq_some_iff] at h
      obtain ⟨m, h1, rfl⟩ := h
      simp [linksL_len h1]
theorem p_readL {fu : Nat} (hf : 100000 ≤ fu) (x z p : Int) {ps : List (List UInt8)} (hl : ps.length < 65000) (hw : ∀ w ∈ ps, w.length < 65000) : ∀ (n : Nat) (v : List Lk) (i : Nat), i ≤ ps.length → v.length = i → ps.length - i < n →
    c_readLine_L1 fu x z (p :: ps.map co) (ps.length : Int) n v (i : Int) = some (match linksL (ps.drop i) with | none => .inl () | some l => .inr (v ++ l))
  | 0, v, i, _, _, h => by omega
  | n + 1, v, i, hi, hv, h => by
    rcases Nat.lt_or_ge i ps.length with h1 | h1
    · have he : (p :: ps.map co)[1 + ((i : Int)).toNat]? = some (co ps[i]) := by
        rw [Int.toNat_natCast, Nat.add_comm, List.getElem?_cons_succ, List.getElem?_map, List.getElem?_eq_getElem h1]; rfl
      have hb := hw _ (List.getElem_mem h1)
      rw [c_readLine_L1, if_pos (by omega), if_pos (by omega), he, Option.bind_some, x_numbersIn hf (by simp) (by omega) (by rw [St.by_co]; exact hb), Option.bind_some, St.by_co, List.drop_eq_getElem_cons h1, linksL]
      cases hq : numsU 5 [0, 2] 0 (splitL 32 ps[i]) with
      | none =>
        have hk : linkL ps[i] = none := by unfold linkL three; rw [hq]
        rw [hk]; rfl
      | some l =>
        obtain ⟨P, hP⟩ : ∃ P, P = rdL (some l) := ⟨_, rfl⟩
        have hP1 : P.1 = l := by rw [hP]; rfl
        have hP2 : P.2 = true := by rw [hP]; rfl
        rw [← hP, if_pos hP2, hP1]
        clear hP hP1 hP2 P
        by_cases h3 : l.length = 3
        · match l, h3, hq with
          | [a, b, c], _, hq =>
            have hk : linkL ps[i] = some (a, b, c) := by unfold linkL three; rw [hq]
            rw [hk]
            rw [if_pos (by simp), if_pos (by simp)]
            have e0 : ([a, b, c] : List Int)[0 + (0 : Int).toNat]? = some a := rfl
            have e1 : ([a, b, c] : List Int)[0 + (1 : Int).toNat]? = some b := rfl
            have e2 : ([a, b, c] : List Int)[0 + (2 : Int).toNat]? = some c := rfl
            rw [e0, Option.bind_some, if_pos (by simp), e1, Option.bind_some, if_pos (by simp), e2, Option.bind_some, if_pos (by omega), wrapS (by omega), p_readL hf x z p hl hw n _ (i + 1) (by omega) (by simp; omega) (by omega)]
            cases linksL (ps.drop (i + 1)) with
            | none => rfl
            | some l => simp
        · have hk : linkL ps[i] = none := three_none (by rw [← numsU_len hq]; exact h3)
          rw [hk]
          exact if_neg (show ¬ ((l.length : Int) = 3) by omega)
    · have : i = ps.length := by omega
      subst this
      rw [c_readLine_L1, if_neg (by omega), List.drop_of_length_le (Nat.le_refl _), linksL]; simp
def rdLine : Option (Int × Int × List Lk) → Int × Int × List Lk × Bool
  | none => (0, 0, [], false)
  | some (x, z, ks) => (x, z, ks, true)
theorem p_readLine {fu : Nat} (hf : 100000 ≤ fu) {a : Int} (ha : (by' a).length < 60010) : c_readLine fu a = some (rdLine (lineL (by' a))) := by
  have hlen := splitL_len 59 (by' a)
  have hmem := @splitL_mem 59 (by' a)
  unfold c_readLine lineL
  rw [s_split b_semi (by omega), Option.bind_some]
  cases hs : splitL 59 (by' a) with
  | nil => exact absurd hs (St.splitL_ne _ _)
  | cons p ps =>
    rw [hs] at hlen hmem
    rw [List.length_cons] at hlen
    have hp := hmem p (by simp)
    rw [List.map_cons, if_pos (by simp)]
    simp only [Int.toNat_zero, Nat.add_zero, List.getElem?_cons_zero, Option.bind_some]
    rw [x_numbersIn hf (by simp) (by omega) (by rw [St.by_co]; omega), Option.bind_some, St.by_co]
    cases hq : numsU 5 [] 0 (splitL 32 p) with
    | none =>
      have hk : two (splitL 32 p) = none := by unfold two; rw [hq]
      rw [hk]; rfl
    | some l =>
      refine Eq.trans (if_pos rfl) ?_
      by_cases h2 : l.length = 2
      · match l, h2, hq with
        | [x, z], _, hq =>
          have hk : two (splitL 32 p) = some (x, z) := by unfold two; rw [hq]
          rw [hk]
          have hl1 : ((co p :: ps.map co).length : Int) = (ps.length : Int) + 1 := by rw [List.length_cons, List.length_map]; rfl
          show (if (1 : Int) ≤ ((co p :: ps.map co).length : Int) then (if ((co p :: ps.map co).length : Int) < (4611686018427387904 : Int) then (Option.bind (c_readLine_L1 fu x z (co p :: ps.map co) (IntKind.wrap .i64 (((co p :: ps.map co).length : Int) - (1 : Int))) fu ([] : List (Int × Int × Int)) (0 : Int)) fun o13 => (match o13 with | .inl y14 => (some ((0 : Int), (0 : Int), ([] : List (Int × Int × Int)), false)) | .inr y15 => (some (x, z, y15, true)))) else none) else none) = _
          rw [hl1, if_pos (by omega), if_pos (by omega), wrapB (by omega) (by omega), show (ps.length : Int) + 1 - 1 = (ps.length : Int) by omega]
          have := p_readL hf x z (co p) (ps := ps) (by omega) (fun w hw => by have := hmem w (by simp [hw]); omega) fu [] 0 (Nat.zero_le _) rfl (by omega)
          rw [show ((0 : Nat) : Int) = 0 from rfl, List.drop_zero] at this
          rw [this, Option.bind_some]
          cases linksL ps <;> rfl
      · have hk : two (splitL 32 p) = none := two_none (by rw [← numsU_len hq]; exact h2)
        rw [hk]
        exact if_neg (show ¬ ((l.length : Int) = 2) by omega)
theorem r_lineL {fu : Nat} (hf : 100000 ≤ fu) {ps : List (List UInt8)} (hl : ps.length < 65000) (hw : ∀ w ∈ ps, w.length < 65000) (x z : Int) : ∀ (n : Nat) (v : List Lk) (i : Nat), 1 ≤ i → i ≤ ps.length → v.length < i → ps.length - i < n →
    r1_ParseLine_L1 fu (ps.map co) n x z v (i : Int) = some (match linksL (ps.drop i) with | none => .inl () | some l => .inr (x, z, v ++ l))
  | 0, v, i, _, _, _, h => by omega
  | n + 1, v, i, hi1, hi, hv, h => by
    rcases Nat.lt_or_ge i ps.length with h1 | h1
    · have he : (ps.map co)[0 + ((i : Int)).toNat]? = some (co ps[i]) := by
        rw [Int.toNat_natCast, Nat.zero_add, List.getElem?_map, List.getElem?_eq_getElem h1]; rfl
      have hb := hw _ (List.getElem_mem h1)
      rw [r1_ParseLine_L1, if_pos (by rw [List.length_map]; omega), if_pos (by omega), he, Option.bind_some, r_parse hf (by omega) (by rw [St.by_co]; exact hb), Option.bind_some, St.by_co, List.drop_eq_getElem_cons h1, linksL]
      cases hq : numsU 5 [] 0 (splitL 32 ps[i]) with
      | none =>
        have hk : linkL ps[i] = none := by unfold linkL; rw [three_eq]; unfold three; rw [hq]
        rw [hk]; rfl
      | some l =>
        obtain ⟨P, hP⟩ : ∃ P, P = rdL (some l) := ⟨_, rfl⟩
        have hP1 : P.1 = l := by rw [hP]; rfl
        have hP2 : P.2 = true := by rw [hP]; rfl
        rw [← hP, if_pos hP2, hP1]
        clear hP hP1 hP2 P
        rw [if_neg (by omega)]
        by_cases h3 : l.length = 3
        · match l, h3, hq with
          | [a, b, c], _, hq =>
            have hk : linkL ps[i] = if a < 0 then none else if c < 0 then none else some (a, b, c) := by unfold linkL; rw [three_eq]; unfold three; rw [hq]
            rw [hk]
            rw [if_pos (by simp), if_pos (by simp)]
            simp only [Int.toNat_zero, Nat.add_zero, List.getElem?_cons_zero, Option.bind_some]
            by_cases ha : a < 0
            · rw [if_pos ha, if_pos ha]
            · have e1 : ([a, b, c] : List Int)[0 + (1 : Int).toNat]? = some b := rfl
              have e2 : ([a, b, c] : List Int)[0 + (2 : Int).toNat]? = some c := rfl
              rw [if_neg ha, if_neg ha, if_pos (by simp), e2, Option.bind_some]
              by_cases hc : c < 0
              · rw [if_pos hc, if_pos hc]
              · rw [if_neg hc, if_neg hc, if_pos (by simp), e1, Option.bind_some, if_pos (by omega), wrapS (by omega), r_lineL hf hl hw x z n _ (i + 1) (by omega) (by omega) (by simp; omega) (by omega)]
                cases linksL (ps.drop (i + 1)) with
                | none => rfl
                | some l => simp
        · have hk : linkL ps[i] = none := three_none (by rw [← numsU_len hq]; exact h3)
          rw [hk]
          exact if_neg (show ¬ ((l.length : Int) = 3) by omega)
    · have : i = ps.length := by omega
      subst this
      rw [r1_ParseLine_L1, if_neg (by rw [List.length_map]; omega), List.drop_of_length_le (Nat.le_refl _), linksL]; simp
def lineV (l : Option (Int × Int × List Lk)) : Int × Int × List Lk × Int := match l with
  | none => (0, 0, [], 7)
  | some (x, z, ks) => if linE x z ks = 0 then (x, z, ks, 0) else (0, 0, [], linE x z ks)
def parsedL (a : Int) : Int × Int × List Lk × Int := if (60000 : Int) < sln a then (0, 0, [], 8) else lineV (lineL (by' a))
end Go.Proofs.YtlfmdkmjfokgbaaGreatDoor

namespace Go.Proofs.YtlfmdkmjfokgbaaGreatDoor
open Go Go.RowKit Go.Lib Go.Proofs.YtlfmdkmjfokgbaaGreatDoor.Cm
open St (by' co splitL numL digV)
theorem p_lineErr {fu : Nat} (hf : 1000 ≤ fu) (X Z : Int) {l : List Lk} (hl : l.length < 900) : c_lineError fu X Z l = some (linE X Z l) := by
  obtain ⟨r, e1, e2⟩ := q_line hf X Z l hl
  unfold c_lineError
  rw [e1, Option.bind_some, e2]
theorem lineL_len {a : List UInt8} {x z : Int} {ks : List Lk} (h : lineL a = some (x, z, ks)) : ks.length ≤ a.length := by
  have hlen := splitL_len 59 a
  unfold lineL at h
  cases hs : splitL 59 a with
  | nil => rw [hs] at h; cases h
  | cons p ps =>
    rw [hs] at h hlen
    simp only at h
    cases h2 : two (splitL 32 p) with
    | none => rw [h2] at h; cases h
    | some q =>
      rw [h2] at h
      simp only [Option.map_eq_some_iff] at h
      obtain ⟨m, h3, h4⟩ := h
      injection h4 with h4 h5
      injection h5 with h5 h6
      subst h6
      have := linksL_len h3
      rw [List.length_cons] at hlen
      omega
theorem p_parseLine {fu : Nat} (hf : 100000 ≤ fu) {a : Int} (ha : (by' a).length < 890 ∨ 60000 < (by' a).length) : c_ParseLine fu a = some (parsedL a) := by
  have hsl : sln a = ((by' a).length : Int) := rfl
  unfold c_ParseLine u_Parsed_CableLine_readLine_lineError parsedL
  by_cases h : (60000 : Int) < sln a
  · rw [if_pos h, if_pos h]; rfl
  · rw [if_neg h, if_neg h, p_readLine hf (by omega), Option.bind_some]
    cases hq : lineL (by' a) with
    | none => rfl
    | some q =>
      obtain ⟨x, z, ks⟩ := q
      have hk := lineL_len hq
      simp only [rdLine, lineV, if_true]
      rw [p_lineErr (by omega) x z (by omega), Option.bind_some]
      by_cases h0 : linE x z ks = 0
      · rw [if_pos h0, if_pos h0]; rfl
      · rw [if_neg h0, if_neg h0]; rfl
theorem r_step0 {fu : Nat} (hf : 100000 ≤ fu) {p : List UInt8} {ps : List (List UInt8)} (hp : p.length < 65000) (n : Nat) : r1_ParseLine_L1 fu ((p :: ps).map co) (n + 1) 0 0 [] 0 = match two (splitL 32 p) with
    | none => some (.inl ())
    | some (x, z) => r1_ParseLine_L1 fu ((p :: ps).map co) n x z [] ((1 : Nat) : Int) := by
  have he : ((p :: ps).map co)[0 + ((0 : Int)).toNat]? = some (co p) := rfl
  rw [r1_ParseLine_L1, if_pos (by simp), if_pos (by omega), he, Option.bind_some, r_parse hf (by omega) (by rw [St.by_co]; exact hp), Option.bind_some, St.by_co]
  cases hq : numsU 5 [] 0 (splitL 32 p) with
  | none =>
    have hk : two (splitL 32 p) = none := by unfold two; rw [hq]
    rw [hk]; rfl
  | some l =>
    obtain ⟨P, hP⟩ : ∃ P, P = rdL (some l) := ⟨_, rfl⟩
    have hP1 : P.1 = l := by rw [hP]; rfl
    have hP2 : P.2 = true := by rw [hP]; rfl
    rw [← hP, if_pos hP2, hP1, if_pos rfl]
    clear hP hP1 hP2 P
    by_cases h2 : l.length = 2
    · match l, h2, hq with
      | [x, z], _, hq =>
        have hk : two (splitL 32 p) = some (x, z) := by unfold two; rw [hq]
        have e0 : ([x, z] : List Int)[0 + (0 : Int).toNat]? = some x := rfl
        have e1 : ([x, z] : List Int)[0 + (1 : Int).toNat]? = some z := rfl
        have hw : IntKind.wrap .i64 ((0 : Int) + 1) = ((1 : Nat) : Int) := by rw [wrapB (by omega) (by omega)]; rfl
        rw [hk, if_pos (by simp), if_pos (by simp), e0, Option.bind_some, if_pos (by simp), e1, Option.bind_some, hw]
    · have hk : two (splitL 32 p) = none := two_none (by rw [← numsU_len hq]; exact h2)
      rw [hk]
      exact if_neg (show ¬ ((l.length : Int) = 2) by omega)
theorem r_parseLine {fu : Nat} (hf : 100000 ≤ fu) {a : Int} (ha : (by' a).length < 890 ∨ 60000 < (by' a).length) : r1_ParseLine fu a = some (parsedL a) := by
  have hsl : sln a = ((by' a).length : Int) := rfl
  unfold r1_ParseLine parsedL
  by_cases h : (60000 : Int) < sln a
  · rw [if_pos h, if_pos h]
  · have hlen := splitL_len 59 (by' a)
    have hmem := @splitL_mem 59 (by' a)
    rw [if_neg h, if_neg h, show (59 : Int) = ((59 : UInt8).toNat : Int) from rfl, z_cut hf 59 (by omega), Option.bind_some]
    have hq : ∀ x z ks, lineL (by' a) = some (x, z, ks) → ks.length < 900 := fun x z ks h => by have := lineL_len h; omega
    unfold lineL at hq ⊢
    cases hs : splitL 59 (by' a) with
    | nil => exact absurd hs (St.splitL_ne _ _)
    | cons p ps =>
      rw [hs] at hlen hmem hq
      rw [List.length_cons] at hlen
      have hp := hmem p (by simp)
      obtain ⟨k, hk⟩ : ∃ k, fu = k + 1 := ⟨fu - 1, by omega⟩
      rw [show r1_ParseLine_L1 fu ((p :: ps).map co) fu 0 0 [] 0 = r1_ParseLine_L1 fu ((p :: ps).map co) (k + 1) 0 0 [] 0 from by rw [← hk], r_step0 hf (by omega)]
      simp only at hq ⊢
      cases h2 : two (splitL 32 p) with
      | none => rfl
      | some q =>
        obtain ⟨x, z⟩ := q
        rw [h2] at hq
        simp only at hq ⊢
        rw [r_lineL hf (ps := p :: ps) (by simp; omega) (fun w hw => by have := hmem w hw; omega) x z k [] 1 (Nat.le_refl _) (by simp) (by simp) (by simp; omega), Option.bind_some, List.drop_one, List.tail_cons]
        cases h3 : linksL ps with
        | none => rfl
        | some ks =>
          have hkl := hq x z ks (by rw [h3]; rfl)
          simp only [Option.map_some, lineV, List.nil_append]
          rw [q_rline (by omega) x z ks hkl, Option.bind_some]
          by_cases h0 : linE x z ks = 0 <;> simp [h0]
/-! ### Boxes -/
def ordE (r : Rg) : Int := if r.2 < r.1 then 9 else 0
def prs : List Int → List Rg
  | a :: b :: r => (a, b) :: prs r
  | _ => []
theorem prs_ends : ∀ b : List Rg, prs (ends b) = b
  | [] => rfl
  | r :: b => by
    have : ends (r :: b) = r.1 :: r.2 :: ends b := rfl
    rw [this, prs, prs_ends b]
theorem prs_len : ∀ l : List Int, (prs l).length ≤ l.length
  | [] => Nat.le_refl _
  | [a] => Nat.zero_le _
  | a :: b :: r => by
    have := prs_len r
    rw [prs, List.length_cons, List.length_cons, List.length_cons]; omega
theorem ord_cases : ∀ l : List Rg, fstF ordE l = 0 ∨ fstF ordE l = 9
  | [] => .inl rfl
  | r :: l => by
    unfold fstF ordE
    by_cases h : r.2 < r.1
    · rw [if_pos h]; exact .inr rfl
    · rw [if_neg h, if_pos rfl]; exact ord_cases l
theorem drop_two {l : List Int} {i m : Nat} (hl : l.length = 2 * m) (hi : 2 * i < l.length) : ∃ a b, l[2 * i]? = some a ∧ l[2 * i + 1]? = some b ∧ l.drop (2 * i) = a :: b :: l.drop (2 * (i + 1)) := by
  refine ⟨l[2 * i], l[2 * i + 1]'(by omega), List.getElem?_eq_getElem hi, List.getElem?_eq_getElem (by omega), ?_⟩
  rw [List.drop_eq_getElem_cons hi, List.drop_eq_getElem_cons (i := 2 * i + 1) (by omega), show 2 * (i + 1) = 2 * i + 1 + 1 by omega]
theorem wrapT {i : Nat} (h : i < 4611686018427387904) : IntKind.wrap .i64 ((i : Int) + 2) = ((i + 2 : Nat) : Int) := by
  rw [IntKind.wrap_i64]; omega
theorem p_boxPL (fu : Nat) {l : List Int} {m : Nat} (hl : l.length = 2 * m) (hm : l.length < 65000) : ∀ (n : Nat) (v : List Rg) (i : Nat), 2 * i ≤ l.length → v.length = i → m - i < n → c_ParseBox_L1 fu l n v ((2 * i : Nat) : Int) = some (v ++ prs (l.drop (2 * i)))
  | 0, v, i, _, _, h => by omega
  | n + 1, v, i, hi, hv, h => by
    rcases Nat.lt_or_ge (2 * i) l.length with h1 | h1
    · obtain ⟨a, b, ha, hb, hd⟩ := drop_two hl h1
      obtain ⟨g1, g2, g3⟩ := idx ha
      obtain ⟨k1, k2, k3⟩ := idx hb
      rw [c_ParseBox_L1, if_pos g1, if_pos g2, g3, Option.bind_some, wrapS (by omega), if_pos k2, if_pos k1, k3, Option.bind_some, if_pos (by omega), wrapT (by omega), hd, prs]
      have := p_boxPL fu hl hm n (v ++ [(a, b)]) (i + 1) (by omega) (by simp; omega) (by omega)
      rw [show 2 * i + 2 = 2 * (i + 1) by omega, this]; simp
    · have : 2 * i = l.length := by omega
      rw [c_ParseBox_L1, if_neg (by omega), this, List.drop_of_length_le (Nat.le_refl _), prs]; simp
      all_goals exact fun _ _ _ e => nomatch e
theorem r_boxPL (fu : Nat) {l : List Int} {m : Nat} (hl : l.length = 2 * m) (hm : l.length < 65000) : ∀ (n : Nat) (v : List Rg) (i : Nat), 2 * i ≤ l.length → v.length = i → m - i < n → r1_ParseBox_L1 fu l n v ((2 * i : Nat) : Int) = some (if fstF ordE (prs (l.drop (2 * i))) = 0 then .inr (v ++ prs (l.drop (2 * i))) else .inl ())
  | 0, v, i, _, _, h => by omega
  | n + 1, v, i, hi, hv, h => by
    rcases Nat.lt_or_ge (2 * i) l.length with h1 | h1
    · obtain ⟨a, b, ha, hb, hd⟩ := drop_two hl h1
      obtain ⟨g1, g2, g3⟩ := idx ha
      obtain ⟨k1, k2, k3⟩ := idx hb
      rw [r1_ParseBox_L1, if_pos g1, if_pos g2, g3, Option.bind_some, wrapS (by omega), if_pos k2, if_pos k1, k3, Option.bind_some, hd, prs, fstF]
      by_cases ho : b < a
      · rw [if_pos ho]
        have : ordE (a, b) = 9 := if_pos ho
        rw [this]; rfl
      · have : ordE (a, b) = 0 := if_neg ho
        rw [if_neg ho, this, if_pos rfl, if_pos (by omega), wrapT (by omega), show 2 * i + 2 = 2 * (i + 1) by omega, r_boxPL fu hl hm n (v ++ [(a, b)]) (i + 1) (by omega) (by simp; omega) (by omega)]
        simp
    · have : 2 * i = l.length := by omega
      rw [r1_ParseBox_L1, if_neg (by omega), this, List.drop_of_length_le (Nat.le_refl _), show prs [] = [] from rfl, fstF, if_pos rfl, List.append_nil]
theorem p_first {fu : Nat} {b : List Rg} (hf : b.length < fu) (hl : b.length < 70000) : ∃ r, u_FirstBad_Range_OrderError fu b = some r ∧ r.2 = fstF ordE b := by
  obtain ⟨o, e1, e2⟩ := fb_run b (fun n i => u_FirstBad_Range_OrderError_L1 fu b (b.length : Int) n (i : Int)) (Sum.elim (·.2) (fun _ => 0)) ordE
    (fun n => ⟨.inr (), by rw [u_FirstBad_Range_OrderError_L1, if_neg (by omega)], rfl⟩)
    (fun n i e he => by
      obtain ⟨h1, h2, h3⟩ := idx he
      have : i < b.length := (List.getElem?_eq_some_iff.1 he).1
      have ho : u_OrderError e.1 e.2 = some (ordE e) := by
        unfold u_OrderError ordE
        by_cases h : e.2 < e.1
        · rw [if_pos h, if_pos h]
        · rw [if_neg h, if_neg h]
      rw [u_FirstBad_Range_OrderError_L1, if_pos h1, if_pos h2, if_pos h1, h3, Option.bind_some, ho, Option.bind_some]
      by_cases h0 : ordE e = 0
      · rw [if_pos h0, wrapS (by omega)]; exact .inl ⟨h0, rfl⟩
      · rw [if_neg h0]; exact .inr ⟨h0, _, rfl, rfl⟩) fu 0 (by omega) (by omega)
  rw [show ((0 : Nat) : Int) = 0 from rfl] at e1
  rw [List.drop_zero] at e2
  unfold u_FirstBad_Range_OrderError
  rw [e1, ← e2]
  cases o <;> exact ⟨_, rfl, rfl⟩
def boxV (a : Int) : List Rg × Int :=
  if (60000 : Int) < sln a then ([], 8) else if a = 0 then ([], 0) else match numsU 2 [] 0 (splitL 32 (by' a)) with
    | none => ([], 7)
    | some l => if Int.tmod (l.length : Int) 2 = 0 then (if fstF ordE (prs l) = 0 then (prs l, 0) else ([], 9)) else ([], 7)
theorem p_parseBox {fu : Nat} (hf : 100000 ≤ fu) (a : Int) : c_ParseBox fu a = some (boxV a) := by
  have hsl : sln a = ((by' a).length : Int) := rfl
  unfold c_ParseBox boxV
  by_cases h : (60000 : Int) < sln a
  · rw [if_pos h, if_pos h]
  · rw [if_neg h, if_neg h]
    by_cases h0 : a = 0
    · rw [if_pos h0, if_pos h0]
    · rw [if_neg h0, if_neg h0, x_numbersIn hf (by simp) (by omega) (by omega), Option.bind_some]
      cases hq : numsU 2 [] 0 (splitL 32 (by' a)) with
      | none => rfl
      | some l =>
        have hl := numsU_len hq
        have hlen := splitL_len 32 (by' a)
        obtain ⟨P, hP⟩ : ∃ P, P = rdL (some l) := ⟨_, rfl⟩
        have hP1 : P.1 = l := by rw [hP]; rfl
        have hP2 : P.2 = true := by rw [hP]; rfl
        rw [← hP, if_pos hP2, hP1]
        clear hP hP1 hP2 P
        by_cases ht : Int.tmod (l.length : Int) 2 = 0
        · obtain ⟨m, hm⟩ : ∃ m, l.length = 2 * m := ⟨l.length / 2, by rw [Int.tmod_eq_emod_of_nonneg (by omega)] at ht; omega⟩
          have := p_boxPL fu hm (by omega) fu [] 0 (by omega) rfl (by omega)
          rw [show ((2 * 0 : Nat) : Int) = 0 from rfl, show 2 * 0 = 0 from rfl, List.drop_zero, List.nil_append] at this
          have hpl := prs_len l
          obtain ⟨r, e1, e2⟩ := p_first (fu := fu) (b := prs l) (by omega) (by omega)
          rw [if_pos ht, this, Option.bind_some, e1, Option.bind_some, e2]
          simp only [if_pos ht]
          rcases ord_cases (prs l) with h1 | h1
          · rw [if_pos h1, if_pos h1]
          · rw [if_neg (by omega), if_neg (by omega), h1]
        · rw [if_neg ht]; simp only [if_neg ht]
theorem r_parseBox {fu : Nat} (hf : 100000 ≤ fu) (a : Int) : r1_ParseBox fu a = some (boxV a) := by
  have hsl : sln a = ((by' a).length : Int) := rfl
  unfold r1_ParseBox boxV
  by_cases h : (60000 : Int) < sln a
  · rw [if_pos h, if_pos h]
  · rw [if_neg h, if_neg h]
    by_cases h0 : a = 0
    · rw [if_pos h0, if_pos h0]
    · rw [if_neg h0, if_neg h0, r_parse hf (by omega) (by omega), Option.bind_some]
      cases hq : numsU 2 [] 0 (splitL 32 (by' a)) with
      | none => rfl
      | some l =>
        have hl := numsU_len hq
        have hlen := splitL_len 32 (by' a)
        obtain ⟨P, hP⟩ : ∃ P, P = rdL (some l) := ⟨_, rfl⟩
        have hP1 : P.1 = l := by rw [hP]; rfl
        have hP2 : P.2 = true := by rw [hP]; rfl
        rw [← hP, if_pos hP2, hP1]
        clear hP hP1 hP2 P
        by_cases ht : Int.tmod (l.length : Int) 2 = 0
        · obtain ⟨m, hm⟩ : ∃ m, l.length = 2 * m := ⟨l.length / 2, by rw [Int.tmod_eq_emod_of_nonneg (by omega)] at ht; omega⟩
          have := r_boxPL fu hm (by omega) fu [] 0 (by omega) rfl (by omega)
          rw [show ((2 * 0 : Nat) : Int) = 0 from rfl, show 2 * 0 = 0 from rfl, List.drop_zero, List.nil_append] at this
          rw [if_pos ht, this, Option.bind_some]
          simp only [if_pos ht]
          rcases ord_cases (prs l) with h1 | h1
          · rw [if_pos h1, if_pos h1]
          · rw [if_neg (by omega), if_neg (by omega)]
        · rw [if_neg ht]; simp only [if_neg ht]
/-! ### What is written is parsed again -/
theorem numsU_itoa {d : Nat} (hd : 1 ≤ d) : ∀ (l : List Int) (i : Nat), (∀ x ∈ l, x.natAbs < 10 ^ d) → numsU d [] i (l.map itoa) = some l
  | [], i, _ => rfl
  | x :: l, i, h => by
    rw [List.map_cons, numsU, numL_itoa' hd (h x (by simp))]
    simp only [List.not_mem_nil, and_false, if_false]
    rw [numsU_itoa hd l (i + 1) fun y hy => h y (by simp [hy])]
    rfl
where numL_itoa' {d : Nat} (hd : 1 ≤ d) {n : Int} (h : n.natAbs < 10 ^ d) : numL d (itoa n) = some n := St.numL_itoa hd h
theorem split_wr (x : Int) (l : List Int) : splitL 32 (wr (x :: l)) = (x :: l).map itoa := by
  unfold wr
  rw [List.map_cons]
  exact St.splitL_join 32 _ _ (St.itoa_not (by decide)) fun y hy => by
    obtain ⟨z, _, rfl⟩ := List.mem_map.1 hy
    exact St.itoa_not (by decide)
theorem tail_mem {c b : UInt8} : ∀ {r : List (List UInt8)}, b ∈ joinTail [c] r → b = c ∨ ∃ y ∈ r, b ∈ y
  | [], h => by simp [joinTail] at h
  | y :: r, h => by
    have e : joinTail [c] (y :: r) = c :: (y ++ joinTail [c] r) := by simp [joinTail]
    rw [e] at h
    rcases List.mem_cons.1 h with h | h
    · exact .inl h
    · rcases List.mem_append.1 h with h | h
      · exact .inr ⟨y, by simp, h⟩
      · rcases tail_mem h with h | ⟨z, hz, h⟩
        · exact .inl h
        · exact .inr ⟨z, by simp [hz], h⟩
theorem wr_not (l : List Int) : (59 : UInt8) ∉ wr l := by
  cases l with
  | nil => simp [wr, join_nil]
  | cons x l =>
    unfold wr
    rw [List.map_cons, join_cons]
    intro h
    rcases List.mem_append.1 h with h | h
    · exact St.itoa_not' (by decide) h
    · rcases tail_mem h with h | ⟨y, hy, h⟩
      · exact absurd h (by decide)
      · obtain ⟨z, _, rfl⟩ := List.mem_map.1 hy
        exact St.itoa_not' (by decide) h
theorem link_again {k : Lk} (h : okL k) : linkL (linkW k) = some k := by
  obtain ⟨⟨h1, h2⟩, ⟨h3, h4⟩, h5, h6⟩ := h
  obtain ⟨a, b, c⟩ := k
  simp only at h1 h2 h3 h4 h5 h6
  unfold linkL linkW
  rw [split_wr, three_eq]
  unfold three
  rw [show (5 : Int) = ((5 : Nat) : Int) from rfl, numsU_itoa (by omega) _ _ (fun x hx => by
    simp only [List.mem_cons, List.not_mem_nil, or_false] at hx
    rcases hx with rfl | rfl | rfl <;> omega)]
  simp only
  rw [if_neg (by omega), if_neg (by omega)]
theorem links_again : ∀ {ks : List Lk}, (∀ k ∈ ks, okL k) → linksL (ks.map linkW) = some ks
  | [], _ => rfl
  | k :: ks, h => by
    rw [List.map_cons, linksL, link_again (h k (by simp)), links_again fun x hx => h x (by simp [hx])]
    rfl
theorem fL_ok {k : Lk} (h : fL k = 0) : okL k := by
  unfold fL at h
  split at h
  · assumption
  · cases h
theorem line_again {X Z : Int} {ks : List Lk} (h : linE X Z ks = 0) : ks.length ≤ 10 ∧ rngL [X, Z] ∧ rngK ks ∧ parsedL (co (lineW X Z ks)) = (X, Z, ks, 0) := by
  have h' := h
  unfold linE at h'
  split at h'
  · rename_i hc
    split at h'
    · cases h'
    · split at h'
      · cases h'
      · have hok : ∀ k ∈ ks, okL k := fun k hk => fL_ok (fstF_ok h' k hk)
        have h10 : ks.length ≤ 10 := by omega
        have hr0 : rngL [X, Z] := fun x hx => by
          simp only [List.mem_cons, List.not_mem_nil, or_false] at hx
          rcases hx with rfl | rfl <;> omega
        have hrK : rngK ks := fun k hk x hx => by
          obtain ⟨⟨h1, h2⟩, ⟨h3, h4⟩, h5, h6⟩ := hok k hk
          simp only [List.mem_cons, List.not_mem_nil, or_false] at hx
          rcases hx with rfl | rfl | rfl <;> omega
        refine ⟨h10, hr0, hrK, ?_⟩
        have hlen := lineW_len hr0 hrK
        have hL : lineL (lineW X Z ks) = some (X, Z, ks) := by
          unfold lineL lineW
          rw [St.splitL_join 59 _ _ (wr_not _) (fun y hy => by obtain ⟨k, _, rfl⟩ := List.mem_map.1 hy; exact wr_not _)]
          have h2 : two (splitL 32 (wr [X, Z])) = some (X, Z) := by
            rw [split_wr]
            unfold two
            rw [show (5 : Int) = ((5 : Nat) : Int) from rfl, numsU_itoa (by omega) _ _ (fun x hx => by
              simp only [List.mem_cons, List.not_mem_nil, or_false] at hx
              rcases hx with rfl | rfl <;> omega)]
          simp only [h2, links_again hok, Option.map_some]
        unfold parsedL
        rw [s_len, if_neg (by omega), St.by_co, hL]
        simp only [lineV]
        rw [if_pos h]
  · cases h'
theorem rg_ok {r : Rg} (h : rgE 50 r = 0) : (-50 ≤ r.1 ∧ r.1 ≤ 50) ∧ (-50 ≤ r.2 ∧ r.2 ≤ 50) ∧ ordE r = 0 := by
  unfold rgE at h
  split at h
  · rename_i hc
    split at h
    · cases h
    · rename_i ho
      exact ⟨hc.1, hc.2, if_neg ho⟩
  · cases h
theorem ends_mem {b : List Rg} {x : Int} (h : x ∈ ends b) : ∃ r ∈ b, x = r.1 ∨ x = r.2 := by
  unfold ends at h
  obtain ⟨r, hr, hx⟩ := List.mem_flatMap.1 h
  exact ⟨r, hr, by simpa using hx⟩
theorem box_again {b : List Rg} (hl : b.length ≤ 20) (h : fstF (rgE 50) b = 0) : boxV (co (wr (ends b))) = (b, 0) := by
  have hok := fun r hr => rg_ok (fstF_ok h r hr)
  have hsm : ∀ x ∈ ends b, x.natAbs < 10 ^ 2 := fun x hx => by
    obtain ⟨r, hr, hx⟩ := ends_mem hx
    obtain ⟨h1, h2, _⟩ := hok r hr
    rcases hx with rfl | rfl <;> omega
  have hw := wr_len (l := ends b) fun x hx => by have := hsm x hx; omega
  rw [ends_len] at hw
  unfold boxV
  rw [s_len, if_neg (by omega), St.by_co]
  cases b with
  | nil => rfl
  | cons r b =>
    have he : ends (r :: b) = r.1 :: r.2 :: ends b := rfl
    have hne : co (wr (ends (r :: b))) ≠ 0 := fun e => by
      have e := co_inj (show co (wr (ends (r :: b))) = co [] from e)
      have hs := split_wr r.1 (r.2 :: ends b)
      rw [← he, e] at hs
      have : splitL 32 [] = [[]] := rfl
      rw [this, he] at hs
      simp at hs
    have hn : numsU 2 [] 0 (splitL 32 (wr (ends (r :: b)))) = some (ends (r :: b)) := by
      rw [he, split_wr, ← he]
      exact numsU_itoa (d := 2) (by omega) _ _ hsm
    have hz : fstF ordE (r :: b) = 0 := by
      have : ∀ {l : List Rg}, (∀ r ∈ l, ordE r = 0) → fstF ordE l = 0 := fun {l} => by
        induction l with
        | nil => intro _; rfl
        | cons a l ih => intro h; unfold fstF; rw [if_pos (h a (by simp))]; exact ih fun x hx => h x (by simp [hx])
      exact this fun r hr => (hok r hr).2.2
    rw [if_neg hne, hn]
    simp only
    rw [ends_len, Int.tmod_eq_emod_of_nonneg (by omega), if_pos (by omega), prs_ends, if_pos hz]
theorem same_line {fu : Nat} {ks : List Lk} (hl : ks.length < fu) (hk : ks.length < 1000) (x z : Int) : r1_SameLine fu x z ks x z ks = some true := by
  have : ∀ (n i : Nat), i ≤ ks.length → ks.length - i < n → r1_SameLine_L1 fu ks ks x z x z n (i : Int) = some (.inr ()) := by
    intro n
    induction n with
    | zero => intro i _ h; omega
    | succ n ih =>
      intro i hi h
      rcases Nat.lt_or_ge i ks.length with h1 | h1
      · obtain ⟨g1, g2, g3⟩ := idx (List.getElem?_eq_getElem h1)
        rw [r1_SameLine_L1, if_pos g1, if_pos g2, g3, Option.bind_some, if_pos g1, Option.bind_some, if_pos rfl, if_pos rfl, if_pos rfl, wrapS (by omega)]
        exact ih (i + 1) (by omega) (by omega)
      · rw [r1_SameLine_L1, if_neg (by omega)]
  unfold r1_SameLine
  have := this fu 0 (Nat.zero_le _) (by omega)
  rw [show ((0 : Nat) : Int) = 0 from rfl] at this
  rw [if_pos rfl, if_pos rfl, if_pos rfl, this]; rfl
theorem same_box {fu : Nat} {b : List Rg} (hl : b.length < fu) (hk : b.length < 70000) : b_Ranges fu b b = some true := by
  have : ∀ (n i : Nat), i ≤ b.length → b.length - i < n → b_Ranges_L1 fu b b n (i : Int) = some (.inr ()) := by
    intro n
    induction n with
    | zero => intro i _ h; omega
    | succ n ih =>
      intro i hi h
      rcases Nat.lt_or_ge i b.length with h1 | h1
      · obtain ⟨g1, g2, g3⟩ := idx (List.getElem?_eq_getElem h1)
        rw [b_Ranges_L1, if_pos g1, if_pos g2, g3, Option.bind_some, if_pos g1, Option.bind_some, if_pos rfl, if_pos rfl, wrapS (by omega)]
        exact ih (i + 1) (by omega) (by omega)
      · rw [b_Ranges_L1, if_neg (by omega)]
  unfold b_Ranges
  have := this fu 0 (Nat.zero_le _) (by omega)
  rw [show ((0 : Nat) : Int) = 0 from rfl] at this
  rw [if_pos rfl, this]; rfl
theorem parsedL_len {a : Int} (ha : (by' a).length < 890 ∨ 60000 < (by' a).length) : (parsedL a).2.2.1.length < 900 := by
  have hsl : sln a = ((by' a).length : Int) := rfl
  unfold parsedL
  by_cases h : (60000 : Int) < sln a
  · rw [if_pos h]; simp
  · rw [if_neg h]
    cases hq : lineL (by' a) with
    | none => simp [lineV]
    | some q =>
      obtain ⟨x, z, ks⟩ := q
      have := lineL_len hq
      simp only [lineV]
      by_cases h0 : linE x z ks = 0
      · rw [if_pos h0]; simp only; omega
      · rw [if_neg h0]; simp
theorem boxV_len (a : Int) : (boxV a).1.length ≤ 60002 := by
  have hsl : sln a = ((by' a).length : Int) := rfl
  unfold boxV
  by_cases h : (60000 : Int) < sln a
  · rw [if_pos h]; simp
  · rw [if_neg h]
    by_cases h0 : a = 0
    · rw [if_pos h0]; simp
    · rw [if_neg h0]
      cases hq : numsU 2 [] 0 (splitL 32 (by' a)) with
      | none => simp
      | some l =>
        have h1 := numsU_len hq
        have h2 := splitL_len 32 (by' a)
        have h3 := prs_len l
        simp only
        split
        · split
          · simp only; omega
          · simp
        · simp
theorem law_true {fu : Nat} (hf : 100000 ≤ fu) {X Z : Int} {ks : List Lk} {b : List Rg} (s : Int) (h0 : rngL [X, Z]) (hK : rngK ks) (hB : rngL (ends b)) : l1_CableStrings fu X Z ks b s = some true := by
  have hsl : sln s = ((by' s).length : Int) := rfl
  unfold l1_CableStrings l1_few
  rw [show l1_awake = some true from rfl, Option.bind_some, if_pos rfl]
  by_cases hk : (ks.length : Int) ≤ 12
  · rw [if_pos hk]
    by_cases hb : (b.length : Int) ≤ 14
    · rw [if_pos hb, Option.bind_some, if_pos rfl]
      have cpL : r1_CopyLine X Z ks = some (X, Z, ks) := by unfold r1_CopyLine; rw [if_pos (by omega)]
      have cpB : b_CopyRanges b = some b := by unfold b_CopyRanges; rw [if_pos (by omega)]
      have fL := p_fmt (fu := fu) (by omega) h0 hK (by omega)
      have fR := r_fmt (fu := fu) (by omega) h0 hK (by omega)
      have bL := p_box (fu := fu) (by omega) hB (by omega)
      have bR := r_box (fu := fu) (by omega) hB (by omega)
      have eL := q_rline (fu := fu) (by omega) X Z ks (by omega)
      have eB := q_rbox (fu := fu) (by omega) X Z ks b (by omega)
      have last : (by' s).length < 890 ∨ 60000 < (by' s).length → ∀ {q : Option Bool}, (q = Option.bind (r1_CopyLine X Z ks) fun r39 => Option.bind (c_FormatLine fu r39.1 r39.2.1 r39.2.2) fun r40 => Option.bind (b_CopyRanges b) fun r41 => Option.bind (c_FormatBox fu r41) fun r42 => Option.bind (c_ParseLine fu s) fun r43 => Option.bind (c_ParseBox fu s) fun r44 => Option.bind (r1_ParseLine fu s) fun r45 => Option.bind (r1_ParseBox fu s) fun r46 => Option.bind (r1_FormatLine fu X Z ks) fun r47 => if r40 = r47 then (Option.bind (r1_FormatBox fu b) fun r49 => if r42 = r49 then (if r43.2.2.2 = r45.2.2.2 then (Option.bind (r1_SameLine fu r43.1 r43.2.1 r43.2.2.1 r45.1 r45.2.1 r45.2.2.1) fun r52 => if r52 = true then (if r44.2 = r46.2 then (Option.bind (b_Ranges fu r44.1 r46.1) fun r55 => if r55 = true then (Option.bind (r1_LineErr fu X Z ks) fun r57 => if r57 = (0 : Int) then (Option.bind (c_ParseLine fu r40) fun r59 => if r59.2.2.2 = (0 : Int) then (Option.bind (r1_SameLine fu r59.1 r59.2.1 r59.2.2.1 X Z ks) fun r61 => if r61 = true then (Option.bind (r1_BoxErr fu X Z ks b) fun r63 => if r63 = (0 : Int) then (Option.bind (c_ParseBox fu r42) fun r65 => if r65.2 = (0 : Int) then (Option.bind (b_Ranges fu r65.1 b) fun r67 => if r67 = true then (some true) else none) else none) else (some true)) else none) else none) else (some true)) else none) else none) else none) else none) else none) else none) → q = some true := by
        intro ha q hq
        rw [hq, cpL, Option.bind_some, fL, Option.bind_some, cpB, Option.bind_some, bL, Option.bind_some, p_parseLine hf ha, Option.bind_some, p_parseBox hf, Option.bind_some, r_parseLine hf ha, Option.bind_some, r_parseBox hf, Option.bind_some, fR, Option.bind_some, if_pos rfl, bR, Option.bind_some, if_pos rfl, if_pos rfl,
          same_line (by have := parsedL_len ha; omega) (by have := parsedL_len ha; omega), Option.bind_some, if_pos rfl, if_pos rfl, same_box (by have := boxV_len s; omega) (by have := boxV_len s; omega), Option.bind_some, if_pos rfl, eL, Option.bind_some]
        by_cases hE : linE X Z ks = 0
        · obtain ⟨g1, g2, g3, g4⟩ := line_again hE
          have hl := lineW_len g2 g3
          rw [if_pos hE, p_parseLine hf (.inl (by rw [St.by_co]; omega)), Option.bind_some, g4, if_pos rfl, same_line (by show ks.length < fu; omega) (by show ks.length < 1000; omega), Option.bind_some, if_pos rfl, eB, Option.bind_some]
          by_cases hX : boxE ks b = 0
          · have hX' := hX
            unfold boxE at hX'
            split at hX'
            · rename_i hbl
              rw [if_pos hX, p_parseBox hf, Option.bind_some, box_again (by omega) hX', if_pos rfl, same_box (by show b.length < fu; omega) (by show b.length < 70000; omega), Option.bind_some, if_pos rfl]
            · cases hX'
          · rw [if_neg hX]
        · rw [if_neg hE]
      by_cases c1 : (200 : Int) < sln s
      · rw [if_pos c1]
        by_cases c2 : sln s ≤ 60000
        · rw [if_pos c2]
        · rw [if_neg c2]
          by_cases c3 : (60010 : Int) < sln s
          · rw [if_pos c3]
          · rw [if_neg c3]; exact last (.inr (by omega)) rfl
      · rw [if_neg c1]
        by_cases c3 : (60010 : Int) < sln s
        · rw [if_pos c3]
        · rw [if_neg c3]; exact last (.inl (by omega)) rfl
    · rw [if_neg hb, Option.bind_some, if_neg (by simp)]
  · rw [if_neg hk, Option.bind_some, if_neg (by simp)]
end Go.Proofs.YtlfmdkmjfokgbaaGreatDoor
