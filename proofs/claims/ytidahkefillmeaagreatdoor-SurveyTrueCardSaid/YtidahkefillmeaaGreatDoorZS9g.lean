/-
  Spans, and the bed at a position: the program and the reference say the same.
-/
import Derived.Test.YtidahkefillmeaaGreatDoorZS9b
import Derived.Test.YtidahkefillmeaaGreatDoorZS9f
set_option linter.all false
namespace Go.Proofs.YtidahkefillmeaaGreatDoor
open Go Go.RowKit
theorem copy_eq' {l : List Sta} (h : l.length < 500) : r9_CopyStations l = some l := by
  unfold r9_CopyStations
  rw [if_pos (by omega)]
def gSp (b : Bool) (p : Int) (l : List Sta) (j : Int) : Bool :=
  match l[j.toNat]? with
  | some e => if b = true then decide (0 < (gaS p e).1) else decide (0 < (gaS p e).2)
  | none => false
theorem gSp_at {b : Bool} {p : Int} {l : List Sta} {i : Nat} {e : Sta} (he : l[i]? = some e) : gSp b p l (i : Int) = if b = true then decide (0 < (gaS p e).1) else decide (0 < (gaS p e).2) := by
  unfold gSp
  rw [show ((i : Int)).toNat = i by omega, he]
theorem p_span1 {l : List Sta} (hs : ∀ e ∈ l, okSt e) {p : Int} (hp : 0 ≤ p ∧ p ≤ 1000) {j : Int} (h0 : 0 ≤ j) (h1 : j < (l.length : Int)) : sv_spans_1 j l p = some (gSp true p l j) := by
  obtain ⟨i, rfl⟩ : ∃ i : Nat, j = (i : Int) := ⟨j.toNat, by omega⟩
  have he : l[i]? = some l[i] := List.getElem?_eq_getElem (by omega)
  obtain ⟨g1, g2, g3⟩ := idx he
  rw [gSp_at he]
  unfold sv_spans_1 sv_SpansIn_1
  rw [if_pos g2, if_pos g1, g3, Option.bind_some, p_gap (hs _ (List.mem_of_getElem? he)) hp, Option.bind_some]
  by_cases c : 0 < (gaS p l[i]).1
  · simp [c]
  · simp [c]
theorem p_span2 {l : List Sta} (hs : ∀ e ∈ l, okSt e) {p : Int} (hp : 0 ≤ p ∧ p ≤ 1000) {j : Int} (h0 : 0 ≤ j) (h1 : j < (l.length : Int)) : sv_spans_1_2 j l p = some (gSp false p l j) := by
  obtain ⟨i, rfl⟩ : ∃ i : Nat, j = (i : Int) := ⟨j.toNat, by omega⟩
  have he : l[i]? = some l[i] := List.getElem?_eq_getElem (by omega)
  obtain ⟨g1, g2, g3⟩ := idx he
  rw [gSp_at he]
  unfold sv_spans_1_2 sv_PossibleIn_1
  rw [if_pos g2, if_pos g1, g3, Option.bind_some, p_gap (hs _ (List.mem_of_getElem? he)) hp, Option.bind_some]
  by_cases c : 0 < (gaS p l[i]).2
  · simp [c]
  · simp [c]
theorem tail_eq {β : Type} (A : List Ran) (s i : Int) (hA : A.length < 60000) (h : -1000000 ≤ s ∧ s ≤ i ∧ i ≤ 1000000) (K : List Ran → Int → Int → Option β) :
    (if s < i then (if (A.length : Int) < (65536 : Int) then (K (A ++ [(s, (IntKind.wrap .i64 (i - (1 : Int))))]) (IntKind.wrap .i64 (i + (1 : Int))) (IntKind.wrap .i64 (i + (1 : Int)))) else none) else (K A (IntKind.wrap .i64 (i + (1 : Int))) (IntKind.wrap .i64 (i + (1 : Int))))) = K (A ++ tailR s i) (i + 1) (i + 1) := by
  rw [wrapB (x := i + 1) (by omega) (by omega), wrapB (x := i - 1) (by omega) (by omega)]
  unfold tailR
  by_cases c : s < i
  · rw [if_pos c, if_pos (by omega), if_pos c]
  · rw [if_neg c, if_neg c, List.append_nil]
def spS (b : Bool) (p : Int) (l : List Sta) : List Ran := stR (gSp b p l) l.length 0 []
theorem p_st1 {fu : Nat} (hf : 1000 ≤ fu) {l : List Sta} (hl : l.length < 500) (hs : ∀ e ∈ l, okSt e) {p : Int} (hp : 0 ≤ p ∧ p ≤ 1000) : u_Stretches_spans_1 fu 0 ((l.length : Int) - 1) l p = some (spS true p l) := by
  have := p_runs (gSp true p l) 0 ((l.length : Int) - 1) (u_Stretches_spans_1_L1 fu l p 0 ((l.length : Int) - 1))
    (fun n A s => by rw [u_Stretches_spans_1_L1, wrapB (by omega) (by omega), if_neg (by omega)])
    (fun n A s i h0 h1 h2 h3 => by
      rw [u_Stretches_spans_1_L1, wrapB (x := (l.length : Int) - 1 + 1) (by omega) (by omega), if_pos (by omega), if_pos h2, p_span1 hs hp (by omega) (by omega), Option.bind_some, if_pos h3, wrapB (by omega) (by omega)])
    (fun n A s i h0 h1 h2 h3 h4 => by
      rw [u_Stretches_spans_1_L1, wrapB (x := (l.length : Int) - 1 + 1) (by omega) (by omega), if_pos (by omega)]
      by_cases c : i ≤ (l.length : Int) - 1
      · rw [if_pos c, p_span1 hs hp (by omega) (by omega), Option.bind_some, h3 c, if_neg Bool.false_ne_true]
        exact tail_eq A s i h4 (by omega) (fun A s i => u_Stretches_spans_1_L1 fu l p 0 ((l.length : Int) - 1) n A s i)
      · rw [if_neg c]
        exact tail_eq A s i h4 (by omega) (fun A s i => u_Stretches_spans_1_L1 fu l p 0 ((l.length : Int) - 1) n A s i))
    l.length fu [] 0 0 (by omega) (by omega) (by omega) (by omega) trivial (by simp; omega)
  unfold u_Stretches_spans_1
  rw [this]; rfl
theorem p_st2 {fu : Nat} (hf : 1000 ≤ fu) {l : List Sta} (hl : l.length < 500) (hs : ∀ e ∈ l, okSt e) {p : Int} (hp : 0 ≤ p ∧ p ≤ 1000) : u_Stretches_spans_1_2 fu 0 ((l.length : Int) - 1) l p = some (spS false p l) := by
  have := p_runs (gSp false p l) 0 ((l.length : Int) - 1) (u_Stretches_spans_1_2_L1 fu l p 0 ((l.length : Int) - 1))
    (fun n A s => by rw [u_Stretches_spans_1_2_L1, wrapB (by omega) (by omega), if_neg (by omega)])
    (fun n A s i h0 h1 h2 h3 => by
      rw [u_Stretches_spans_1_2_L1, wrapB (x := (l.length : Int) - 1 + 1) (by omega) (by omega), if_pos (by omega), if_pos h2, p_span2 hs hp (by omega) (by omega), Option.bind_some, if_pos h3, wrapB (by omega) (by omega)])
    (fun n A s i h0 h1 h2 h3 h4 => by
      rw [u_Stretches_spans_1_2_L1, wrapB (x := (l.length : Int) - 1 + 1) (by omega) (by omega), if_pos (by omega)]
      by_cases c : i ≤ (l.length : Int) - 1
      · rw [if_pos c, p_span2 hs hp (by omega) (by omega), Option.bind_some, h3 c, if_neg Bool.false_ne_true]
        exact tail_eq A s i h4 (by omega) (fun A s i => u_Stretches_spans_1_2_L1 fu l p 0 ((l.length : Int) - 1) n A s i)
      · rw [if_neg c]
        exact tail_eq A s i h4 (by omega) (fun A s i => u_Stretches_spans_1_2_L1 fu l p 0 ((l.length : Int) - 1) n A s i))
    l.length fu [] 0 0 (by omega) (by omega) (by omega) (by omega) trivial (by simp; omega)
  unfold u_Stretches_spans_1_2
  rw [this]; rfl
theorem spS_len (b : Bool) (p : Int) (l : List Sta) : (spS b p l).length ≤ l.length := by
  have := stR_len (gSp b p l) l.length 0 []
  simpa [spS] using this
theorem p_pipe {fu : Nat} (hf : 1000 ≤ fu) {l : List Sta} (hl : l.length < 500) (p : Int) : sv_pipeError fu l p = some (if (ckS l).2 = 0 then (if 1 ≤ p ∧ p ≤ 1000 then 0 else 2) else (ckS l).2) := by
  unfold sv_pipeError
  rw [p_stations hf l hl, Option.bind_some, x_limit, Option.bind_some, x_first fu _ (by simp; omega) (by simp), Option.bind_some]
  by_cases h : (ckS l).2 = 0
  · by_cases hp : 1 ≤ p ∧ p ≤ 1000
    · simp [firstE, h, limE_zero.2 hp, hp]
    · simp [firstE, h, limE_two hp, hp]
  · simp [firstE, h]
def spE (l : List Sta) (p : Int) : Int := if (ckS l).2 = 0 then (if 1 ≤ p ∧ p ≤ 1000 then 0 else 2) else (ckS l).2
theorem p_spans {fu : Nat} (hf : 1000 ≤ fu) {l : List Sta} (hl : l.length < 500) (p : Int) : sv_SpansIn fu l p = some (if spE l p = 0 then (spS true p l, 0) else ([], spE l p)) := by
  unfold sv_SpansIn sv_spans_SpansIn_1
  rw [p_pipe hf hl, Option.bind_some]
  show Option.bind (if spE l p = 0 then _ else _) _ = _
  by_cases h : spE l p = 0
  · rw [if_pos h, if_pos h]
    have h' := h
    unfold spE at h'
    by_cases c : (ckS l).2 = 0
    · rw [if_pos c] at h'
      by_cases d : 1 ≤ p ∧ p ≤ 1000
      · rw [wrapB (by omega) (by omega), p_st1 hf hl (ckS_ok c).2 (by omega)]; rfl
      · rw [if_neg d] at h'; omega
    · rw [if_neg c] at h'; exact absurd h' c
  · rw [if_neg h, if_neg h]; rfl
theorem p_possible {fu : Nat} (hf : 1000 ≤ fu) {l : List Sta} (hl : l.length < 500) (p : Int) : sv_PossibleIn fu l p = some (if spE l p = 0 then (spS false p l, 0) else ([], spE l p)) := by
  unfold sv_PossibleIn sv_spans_PossibleIn_1
  rw [p_pipe hf hl, Option.bind_some]
  show Option.bind (if spE l p = 0 then _ else _) _ = _
  by_cases h : spE l p = 0
  · rw [if_pos h, if_pos h]
    have h' := h
    unfold spE at h'
    by_cases c : (ckS l).2 = 0
    · rw [if_pos c] at h'
      by_cases d : 1 ≤ p ∧ p ≤ 1000
      · rw [wrapB (by omega) (by omega), p_st2 hf hl (ckS_ok c).2 (by omega)]; rfl
      · rw [if_neg d] at h'; omega
    · rw [if_neg c] at h'; exact absurd h' c
  · rw [if_neg h, if_neg h]; rfl
end Go.Proofs.YtidahkefillmeaaGreatDoor
