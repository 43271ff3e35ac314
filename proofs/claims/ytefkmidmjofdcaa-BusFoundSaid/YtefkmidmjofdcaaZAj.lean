/-
  The law of frames and changed bits, as a Lean function, is true.
-/
import Derived.Test.YtefkmidmjofdcaaZAh
set_option linter.all false
namespace Go.Proofs.Ytefkmidmjofdcaa
open Go Go.RowKit

theorem isB_nat {x : Nat} (h : x < 256) : isB (x : Int) = true := by
  unfold isB; exact decide_eq_true ⟨by omega, by omega⟩
theorem a_copy (l : List Int) (h : l.length < 60000) : b_CopyInts l = some l := by
  unfold b_CopyInts; rw [if_pos (by omega)]
theorem all_nat : ∀ (N : List Nat), bytesN N → (N.map fun (x : Nat) => (x : Int)).all isB = true
  | [], _ => rfl
  | e :: r, h => by
    rw [List.map_cons, List.all_cons, isB_nat (h e List.mem_cons_self), all_nat r fun x hx => h x (List.mem_cons_of_mem _ hx)]; rfl
theorem remOf_nat (fu : Nat) (hf : 1000 ≤ fu) (N : List Nat) (hb : bytesN N) (hl : N.length ≤ 60) : bus_RemainderOf fu (N.map fun (x : Nat) => (x : Int)) = some ((rmN N 0 : Int), 0) := by
  have e0 : ermE (N.map fun (x : Nat) => (x : Int)) = 0 := by
    unfold ermE byE
    rw [if_neg (by rw [List.length_map]; omega), all_nat N hb]; rfl
  have e1 := (rm_nat N hb (v := 0) (by omega)).1
  rw [show ((0 : Nat) : Int) = 0 from rfl] at e1
  rw [a_remOf fu hf _ (by rw [List.length_map]; omega), if_pos e0, e1]
theorem found_rest (fu : Nat) (hf : 1000 ≤ fu) (l : List (Int × Int)) (hl : l.length ≤ 20) : (Option.bind (l7_BusFound_L2 fu l fu ([] : List (Int)) ([] : List (Int)) ([] : List (Int)) (0 : Int)) fun o23 => Option.bind (b_CopyInts o23.1) fun r24 => Option.bind (bus_RemainderOf fu r24) fun r25 => Option.bind (b_CopyInts o23.2.1) fun r26 => Option.bind (bus_RemainderOf fu r26) fun r27 => Option.bind (bus_RemainderOf fu o23.2.2) fun r28 => if r25.2 = (0 : Int) then (if r27.2 = (0 : Int) then (if r28.2 = (0 : Int) then (if r28.1 = (Cm.bitE .xor .i64 r25.1 r27.1) then (Option.bind (b_Within r25.1 (0 : Int) (255 : Int)) fun r33 => if r33 = true then (if (o23.1.length : Int) < (65536 : Int) then (Option.bind (bus_RemainderOf fu (o23.1 ++ [r25.1])) fun r36 => if r36.2 = (0 : Int) then (if r36.1 = (0 : Int) then (some true) else (some false)) else (some false)) else none) else (some false)) else (some false)) else (some false)) else (some false)) else (some false)) = some true := by
  have e := found_L2 fu l (by omega) fu 0 [] [] [] (by simp) (by simp) (by simp) (by omega) (by omega)
  rw [show ((0 : Nat) : Int) = 0 from rfl, List.drop_zero, List.nil_append, List.nil_append, List.nil_append, show (l.map fun e => (gA e : Int)) = (l.map gA).map (fun (x : Nat) => (x : Int)) by rw [List.map_map]; rfl, show (l.map fun e => (gB e : Int)) = (l.map gB).map (fun (x : Nat) => (x : Int)) by rw [List.map_map]; rfl, show (l.map fun e => ((gA e ^^^ gB e : Nat) : Int)) = (l.map fun e => gA e ^^^ gB e).map (fun (x : Nat) => (x : Int)) by rw [List.map_map]; rfl] at e
  have hA : bytesN (l.map gA) := fun x hx => by obtain ⟨e, _, rfl⟩ := List.mem_map.1 hx; exact (gA_ok e).2
  have hB : bytesN (l.map gB) := fun x hx => by obtain ⟨e, _, rfl⟩ := List.mem_map.1 hx; exact (gB_ok e).2
  have hC : bytesN (l.map fun e => gA e ^^^ gB e) := fun x hx => by obtain ⟨e, _, rfl⟩ := List.mem_map.1 hx; exact xor_lt (gA_ok e).2 (gB_ok e).2
  have rA := (rm_nat _ hA (v := 0) (by omega)).2
  have rB := (rm_nat _ hB (v := 0) (by omega)).2
  have lin := rmN_lin gA gB l (u := 0) (v := 0) (fun x _ => ⟨(gA_ok x).2, (gB_ok x).2⟩) (by omega) (by omega)
  rw [Nat.xor_zero] at lin
  rw [e, Option.bind_some]
  simp only
  rw [a_copy _ (by simp; omega), Option.bind_some, remOf_nat fu hf _ hA (by simp; omega), Option.bind_some, a_copy _ (by simp; omega), Option.bind_some, remOf_nat fu hf _ hB (by simp; omega), Option.bind_some, remOf_nat fu hf _ hC (by simp; omega), Option.bind_some]
  simp only
  rw [if_pos trivial, if_pos trivial, if_pos trivial, if_pos (by rw [bit_xor (by omega) (by omega), lin]), a_within, Option.bind_some, if_pos (decide_eq_true ⟨by omega, by omega⟩), if_pos (by simp; omega)]
  have e2 : (l.map gA).map (fun (x : Nat) => (x : Int)) ++ [(rmN (l.map gA) 0 : Int)] = (l.map gA ++ [rmN (l.map gA) 0]).map (fun (x : Nat) => (x : Int)) := by rw [List.map_append]; rfl
  rw [e2, remOf_nat fu hf _ (fun x hx => by
    rcases List.mem_append.1 hx with hx | hx
    · exact hA x hx
    · rw [List.mem_singleton.1 hx]; exact rA) (by simp; omega), Option.bind_some]
  simp only
  rw [if_pos trivial, rmN_app, Nat.xor_self, it8_zero]
  exact if_pos rfl
theorem msg_nat {s n k a b c d : Int} (h : msgE s n k [a, b, c, d] = 0) : ∃ s0 n0 k0 a0 b0 c0 d0 : Nat, (s = s0 ∧ n = n0 ∧ k = k0 ∧ a = a0 ∧ b = b0 ∧ c = c0 ∧ d = d0) ∧ (s0 < 256 ∧ n0 < 256 ∧ k0 < 256 ∧ a0 < 256 ∧ b0 < 256 ∧ c0 < 256 ∧ d0 < 256) := by
  have hb : msgB s n k [a, b, c, d] = true := by
    unfold msgE at h
    cases hq : msgB s n k [a, b, c, d] with
    | true => rfl
    | false => rw [hq] at h; cases h
  unfold msgB isB at hb
  simp only [List.all_cons, List.all_nil, Bool.and_true, Bool.and_eq_true, decide_eq_true_eq] at hb
  refine ⟨s.toNat, n.toNat, k.toNat, a.toNat, b.toNat, c.toNat, d.toNat, ?_, ?_⟩ <;> omega
theorem dcd_err (f : List Int) (s n k a b c d h : Int) : (dcd f s n k a b c d h).2.2.2.2.2.2.2 = dcE f s n k a b c d h := by
  unfold dcd
  split
  · rename_i e; exact e.symm
  · rfl
theorem rm7 {f0 f1 f2 f3 f4 f5 f6 : Nat} (hf0 : f0 < 256) (hf1 : f1 < 256) (hf2 : f2 < 256) (hf3 : f3 < 256) (hf4 : f4 < 256) (hf5 : f5 < 256) (hf6 : f6 < 256) : rm [(f0 : Int), (f1 : Int), (f2 : Int), (f3 : Int), (f4 : Int), (f5 : Int), (f6 : Int)] 0 = (rmN [f0, f1, f2, f3, f4, f5, f6] 0 : Int) ∧ rmN [f0, f1, f2, f3, f4, f5, f6] 0 < 256 := by
  have hb : bytesN [f0, f1, f2, f3, f4, f5, f6] := fun x hx => by simp only [List.mem_cons, List.not_mem_nil, or_false] at hx; omega
  exact rm_nat _ hb (v := 0) (by omega)
theorem rm8 (f0 f1 f2 f3 f4 f5 f6 f7 : Nat) : rmN [f0, f1, f2, f3, f4, f5, f6, f7] 0 = itN 8 (rmN [f0, f1, f2, f3, f4, f5, f6] 0 ^^^ f7) := rmN_app [f0, f1, f2, f3, f4, f5, f6] f7 0
theorem dc_ne {g0 g1 g2 g3 g4 g5 g6 g7 : Nat} (hg0 : g0 < 256) (hg1 : g1 < 256) (hg2 : g2 < 256) (hg3 : g3 < 256) (hg4 : g4 < 256) (hg5 : g5 < 256) (hg6 : g6 < 256) (hg7 : g7 < 256) (h : rmN [g0, g1, g2, g3, g4, g5, g6, g7] 0 ≠ 0) : dcE [(g0 : Int), (g1 : Int), (g2 : Int), (g3 : Int), (g4 : Int), (g5 : Int), (g6 : Int), (g7 : Int)] g0 g1 g2 g3 g4 g5 g6 g7 ≠ 0 := by
  intro c
  unfold dcE at c
  split at c
  · split at c
    · rename_i e
      rw [(rm7 hg0 hg1 hg2 hg3 hg4 hg5 hg6).1] at e
      have e : g7 = rmN [g0, g1, g2, g3, g4, g5, g6] 0 := by omega
      rw [rm8, ← e, Nat.xor_self, it8_zero] at h
      exact h rfl
    · cases c
  · rename_i e; exact e c
theorem diff_0 {f0 f1 f2 f3 f4 f5 f6 f7 H L : Nat} (hf0 : f0 < 256) (hf1 : f1 < 256) (hf2 : f2 < 256) (hf3 : f3 < 256) (hf4 : f4 < 256) (hf5 : f5 < 256) (hf6 : f6 < 256) (hf7 : f7 < 256) (hH : H < 256) (hL : L < 256) (hne : itN 8 H ^^^ L ≠ 0) (h0 : rmN [f0, f1, f2, f3, f4, f5, f6, f7] 0 = 0) : rmN [f0 ^^^ H, f1 ^^^ L, f2, f3, f4, f5, f6, f7] 0 ≠ 0 := by
  have q := rmN_lin Prod.fst Prod.snd [(f0, H), (f1, L), (f2, 0), (f3, 0), (f4, 0), (f5, 0), (f6, 0), (f7, 0)] (u := 0) (v := 0) (fun x hx => by simp only [List.mem_cons, List.not_mem_nil, or_false] at hx; rcases hx with rfl | rfl | rfl | rfl | rfl | rfl | rfl | rfl <;> exact ⟨by assumption, by first | assumption | omega⟩) (by omega) (by omega)
  simp only [List.map, Nat.xor_zero] at q
  rw [q, h0, Nat.zero_xor]
  rw [rmN, rmN, Nat.zero_xor]
  have x1 := (it_nat 8 hH).2
  have x2 := (it_nat 8 (xor_lt x1 hL)).2
  exact rmN_nz 6 x2 (it8_ne (xor_lt x1 hL) hne)
theorem diff_1 {f0 f1 f2 f3 f4 f5 f6 f7 H L : Nat} (hf0 : f0 < 256) (hf1 : f1 < 256) (hf2 : f2 < 256) (hf3 : f3 < 256) (hf4 : f4 < 256) (hf5 : f5 < 256) (hf6 : f6 < 256) (hf7 : f7 < 256) (hH : H < 256) (hL : L < 256) (hne : itN 8 H ^^^ L ≠ 0) (h0 : rmN [f0, f1, f2, f3, f4, f5, f6, f7] 0 = 0) : rmN [f0, f1 ^^^ H, f2 ^^^ L, f3, f4, f5, f6, f7] 0 ≠ 0 := by
  have q := rmN_lin Prod.fst Prod.snd [(f0, 0), (f1, H), (f2, L), (f3, 0), (f4, 0), (f5, 0), (f6, 0), (f7, 0)] (u := 0) (v := 0) (fun x hx => by simp only [List.mem_cons, List.not_mem_nil, or_false] at hx; rcases hx with rfl | rfl | rfl | rfl | rfl | rfl | rfl | rfl <;> exact ⟨by assumption, by first | assumption | omega⟩) (by omega) (by omega)
  simp only [List.map, Nat.xor_zero] at q
  rw [q, h0, Nat.zero_xor, rmN_z]
  rw [rmN, rmN, Nat.zero_xor]
  have x1 := (it_nat 8 hH).2
  have x2 := (it_nat 8 (xor_lt x1 hL)).2
  exact rmN_nz 5 x2 (it8_ne (xor_lt x1 hL) hne)
theorem diff_2 {f0 f1 f2 f3 f4 f5 f6 f7 H L : Nat} (hf0 : f0 < 256) (hf1 : f1 < 256) (hf2 : f2 < 256) (hf3 : f3 < 256) (hf4 : f4 < 256) (hf5 : f5 < 256) (hf6 : f6 < 256) (hf7 : f7 < 256) (hH : H < 256) (hL : L < 256) (hne : itN 8 H ^^^ L ≠ 0) (h0 : rmN [f0, f1, f2, f3, f4, f5, f6, f7] 0 = 0) : rmN [f0, f1, f2 ^^^ H, f3 ^^^ L, f4, f5, f6, f7] 0 ≠ 0 := by
  have q := rmN_lin Prod.fst Prod.snd [(f0, 0), (f1, 0), (f2, H), (f3, L), (f4, 0), (f5, 0), (f6, 0), (f7, 0)] (u := 0) (v := 0) (fun x hx => by simp only [List.mem_cons, List.not_mem_nil, or_false] at hx; rcases hx with rfl | rfl | rfl | rfl | rfl | rfl | rfl | rfl <;> exact ⟨by assumption, by first | assumption | omega⟩) (by omega) (by omega)
  simp only [List.map, Nat.xor_zero] at q
  rw [q, h0, Nat.zero_xor, rmN_z, rmN_z]
  rw [rmN, rmN, Nat.zero_xor]
  have x1 := (it_nat 8 hH).2
  have x2 := (it_nat 8 (xor_lt x1 hL)).2
  exact rmN_nz 4 x2 (it8_ne (xor_lt x1 hL) hne)
theorem diff_3 {f0 f1 f2 f3 f4 f5 f6 f7 H L : Nat} (hf0 : f0 < 256) (hf1 : f1 < 256) (hf2 : f2 < 256) (hf3 : f3 < 256) (hf4 : f4 < 256) (hf5 : f5 < 256) (hf6 : f6 < 256) (hf7 : f7 < 256) (hH : H < 256) (hL : L < 256) (hne : itN 8 H ^^^ L ≠ 0) (h0 : rmN [f0, f1, f2, f3, f4, f5, f6, f7] 0 = 0) : rmN [f0, f1, f2, f3 ^^^ H, f4 ^^^ L, f5, f6, f7] 0 ≠ 0 := by
  have q := rmN_lin Prod.fst Prod.snd [(f0, 0), (f1, 0), (f2, 0), (f3, H), (f4, L), (f5, 0), (f6, 0), (f7, 0)] (u := 0) (v := 0) (fun x hx => by simp only [List.mem_cons, List.not_mem_nil, or_false] at hx; rcases hx with rfl | rfl | rfl | rfl | rfl | rfl | rfl | rfl <;> exact ⟨by assumption, by first | assumption | omega⟩) (by omega) (by omega)
  simp only [List.map, Nat.xor_zero] at q
  rw [q, h0, Nat.zero_xor, rmN_z, rmN_z, rmN_z]
  rw [rmN, rmN, Nat.zero_xor]
  have x1 := (it_nat 8 hH).2
  have x2 := (it_nat 8 (xor_lt x1 hL)).2
  exact rmN_nz 3 x2 (it8_ne (xor_lt x1 hL) hne)
theorem diff_4 {f0 f1 f2 f3 f4 f5 f6 f7 H L : Nat} (hf0 : f0 < 256) (hf1 : f1 < 256) (hf2 : f2 < 256) (hf3 : f3 < 256) (hf4 : f4 < 256) (hf5 : f5 < 256) (hf6 : f6 < 256) (hf7 : f7 < 256) (hH : H < 256) (hL : L < 256) (hne : itN 8 H ^^^ L ≠ 0) (h0 : rmN [f0, f1, f2, f3, f4, f5, f6, f7] 0 = 0) : rmN [f0, f1, f2, f3, f4 ^^^ H, f5 ^^^ L, f6, f7] 0 ≠ 0 := by
  have q := rmN_lin Prod.fst Prod.snd [(f0, 0), (f1, 0), (f2, 0), (f3, 0), (f4, H), (f5, L), (f6, 0), (f7, 0)] (u := 0) (v := 0) (fun x hx => by simp only [List.mem_cons, List.not_mem_nil, or_false] at hx; rcases hx with rfl | rfl | rfl | rfl | rfl | rfl | rfl | rfl <;> exact ⟨by assumption, by first | assumption | omega⟩) (by omega) (by omega)
  simp only [List.map, Nat.xor_zero] at q
  rw [q, h0, Nat.zero_xor, rmN_z, rmN_z, rmN_z, rmN_z]
  rw [rmN, rmN, Nat.zero_xor]
  have x1 := (it_nat 8 hH).2
  have x2 := (it_nat 8 (xor_lt x1 hL)).2
  exact rmN_nz 2 x2 (it8_ne (xor_lt x1 hL) hne)
theorem diff_5 {f0 f1 f2 f3 f4 f5 f6 f7 H L : Nat} (hf0 : f0 < 256) (hf1 : f1 < 256) (hf2 : f2 < 256) (hf3 : f3 < 256) (hf4 : f4 < 256) (hf5 : f5 < 256) (hf6 : f6 < 256) (hf7 : f7 < 256) (hH : H < 256) (hL : L < 256) (hne : itN 8 H ^^^ L ≠ 0) (h0 : rmN [f0, f1, f2, f3, f4, f5, f6, f7] 0 = 0) : rmN [f0, f1, f2, f3, f4, f5 ^^^ H, f6 ^^^ L, f7] 0 ≠ 0 := by
  have q := rmN_lin Prod.fst Prod.snd [(f0, 0), (f1, 0), (f2, 0), (f3, 0), (f4, 0), (f5, H), (f6, L), (f7, 0)] (u := 0) (v := 0) (fun x hx => by simp only [List.mem_cons, List.not_mem_nil, or_false] at hx; rcases hx with rfl | rfl | rfl | rfl | rfl | rfl | rfl | rfl <;> exact ⟨by assumption, by first | assumption | omega⟩) (by omega) (by omega)
  simp only [List.map, Nat.xor_zero] at q
  rw [q, h0, Nat.zero_xor, rmN_z, rmN_z, rmN_z, rmN_z, rmN_z]
  rw [rmN, rmN, Nat.zero_xor]
  have x1 := (it_nat 8 hH).2
  have x2 := (it_nat 8 (xor_lt x1 hL)).2
  exact rmN_nz 1 x2 (it8_ne (xor_lt x1 hL) hne)
theorem diff_6 {f0 f1 f2 f3 f4 f5 f6 f7 H L : Nat} (hf0 : f0 < 256) (hf1 : f1 < 256) (hf2 : f2 < 256) (hf3 : f3 < 256) (hf4 : f4 < 256) (hf5 : f5 < 256) (hf6 : f6 < 256) (hf7 : f7 < 256) (hH : H < 256) (hL : L < 256) (hne : itN 8 H ^^^ L ≠ 0) (h0 : rmN [f0, f1, f2, f3, f4, f5, f6, f7] 0 = 0) : rmN [f0, f1, f2, f3, f4, f5, f6 ^^^ H, f7 ^^^ L] 0 ≠ 0 := by
  have q := rmN_lin Prod.fst Prod.snd [(f0, 0), (f1, 0), (f2, 0), (f3, 0), (f4, 0), (f5, 0), (f6, H), (f7, L)] (u := 0) (v := 0) (fun x hx => by simp only [List.mem_cons, List.not_mem_nil, or_false] at hx; rcases hx with rfl | rfl | rfl | rfl | rfl | rfl | rfl | rfl <;> exact ⟨by assumption, by first | assumption | omega⟩) (by omega) (by omega)
  simp only [List.map, Nat.xor_zero] at q
  rw [q, h0, Nat.zero_xor, rmN_z, rmN_z, rmN_z, rmN_z, rmN_z, rmN_z]
  rw [rmN, rmN, Nat.zero_xor]
  have x1 := (it_nat 8 hH).2
  have x2 := (it_nat 8 (xor_lt x1 hL)).2
  exact rmN_nz 0 x2 (it8_ne (xor_lt x1 hL) hne)
theorem diff_7 {f0 f1 f2 f3 f4 f5 f6 f7 H : Nat} (hf0 : f0 < 256) (hf1 : f1 < 256) (hf2 : f2 < 256) (hf3 : f3 < 256) (hf4 : f4 < 256) (hf5 : f5 < 256) (hf6 : f6 < 256) (hf7 : f7 < 256) (hH : H < 256) (hne : H ≠ 0) (h0 : rmN [f0, f1, f2, f3, f4, f5, f6, f7] 0 = 0) : rmN [f0, f1, f2, f3, f4, f5, f6, f7 ^^^ H] 0 ≠ 0 := by
  have q := rmN_lin Prod.fst Prod.snd [(f0, 0), (f1, 0), (f2, 0), (f3, 0), (f4, 0), (f5, 0), (f6, 0), (f7, H)] (u := 0) (v := 0) (fun x hx => by simp only [List.mem_cons, List.not_mem_nil, or_false] at hx; rcases hx with rfl | rfl | rfl | rfl | rfl | rfl | rfl | rfl <;> exact ⟨by assumption, by first | assumption | omega⟩) (by omega) (by omega)
  simp only [List.map, Nat.xor_zero] at q
  rw [q, h0, Nat.zero_xor, rmN_z, rmN_z, rmN_z, rmN_z, rmN_z, rmN_z, rmN_z]
  rw [rmN, Nat.zero_xor]
  exact it8_ne hH hne
theorem tail_0 (fu : Nat) (hf : 1000 ≤ fu) (l : List (Int × Int)) (hl20 : l.length ≤ 20) {s p : Nat} (hs : s < 8) (hp : p < 256) (hp0 : p ≠ 0) {f0 f1 f2 f3 f4 f5 f6 f7 : Nat} (hf0 : f0 < 256) (hf1 : f1 < 256) (hf2 : f2 < 256) (hf3 : f3 < 256) (hf4 : f4 < 256) (hf5 : f5 < 256) (hf6 : f6 < 256) (hf7 : f7 < 256) (h0 : rmN [f0, f1, f2, f3, f4, f5, f6, f7] 0 = 0) : (Option.bind (l7_BusFound_L1 fu l ((0 + s : Nat) : Int) (p : Int) fu (f0 : Int) (f1 : Int) (f2 : Int) (f3 : Int) (f4 : Int) (f5 : Int) (f6 : Int) (f7 : Int) false (0 : Int)) fun o19 => Option.bind (bus_Decoded fu o19.1 o19.2.1 o19.2.2.1 o19.2.2.2.1 o19.2.2.2.2.1 o19.2.2.2.2.2.1 o19.2.2.2.2.2.2.1 o19.2.2.2.2.2.2.2.1) fun r20 => if o19.2.2.2.2.2.2.2.2 = true then (if r20.2.2.2.2.2.2.2 = (0 : Int) then (some false) else (Option.bind (l7_BusFound_L2 fu l fu ([] : List (Int)) ([] : List (Int)) ([] : List (Int)) (0 : Int)) fun o23 => Option.bind (b_CopyInts o23.1) fun r24 => Option.bind (bus_RemainderOf fu r24) fun r25 => Option.bind (b_CopyInts o23.2.1) fun r26 => Option.bind (bus_RemainderOf fu r26) fun r27 => Option.bind (bus_RemainderOf fu o23.2.2) fun r28 => if r25.2 = (0 : Int) then (if r27.2 = (0 : Int) then (if r28.2 = (0 : Int) then (if r28.1 = (Cm.bitE .xor .i64 r25.1 r27.1) then (Option.bind (b_Within r25.1 (0 : Int) (255 : Int)) fun r33 => if r33 = true then (if (o23.1.length : Int) < (65536 : Int) then (Option.bind (bus_RemainderOf fu (o23.1 ++ [r25.1])) fun r36 => if r36.2 = (0 : Int) then (if r36.1 = (0 : Int) then (some true) else (some false)) else (some false)) else none) else (some false)) else (some false)) else (some false)) else (some false)) else (some false))) else (Option.bind (l7_BusFound_L2 fu l fu ([] : List (Int)) ([] : List (Int)) ([] : List (Int)) (0 : Int)) fun o23 => Option.bind (b_CopyInts o23.1) fun r24 => Option.bind (bus_RemainderOf fu r24) fun r25 => Option.bind (b_CopyInts o23.2.1) fun r26 => Option.bind (bus_RemainderOf fu r26) fun r27 => Option.bind (bus_RemainderOf fu o23.2.2) fun r28 => if r25.2 = (0 : Int) then (if r27.2 = (0 : Int) then (if r28.2 = (0 : Int) then (if r28.1 = (Cm.bitE .xor .i64 r25.1 r27.1) then (Option.bind (b_Within r25.1 (0 : Int) (255 : Int)) fun r33 => if r33 = true then (if (o23.1.length : Int) < (65536 : Int) then (Option.bind (bus_RemainderOf fu (o23.1 ++ [r25.1])) fun r36 => if r36.2 = (0 : Int) then (if r36.1 = (0 : Int) then (some true) else (some false)) else (some false)) else none) else (some false)) else (some false)) else (some false)) else (some false)) else (some false))) = some true := by
  have e := found_0 fu l hs hp hf0 hf1 hf2 hf3 hf4 hf5 hf6 hf7 fu 0 0 0 false (by omega) (by omega) (by omega) (by omega)
  rw [show ((0 : Nat) : Int) = 0 from rfl] at e
  simp only [Nat.xor_zero, Nat.sub_zero] at e
  rw [e, Option.bind_some]
  simp only
  rw [a_decoded fu hf, Option.bind_some]
  obtain ⟨o1, o2, o3⟩ := hl_ok hs hp hp0
  by_cases ha : (hl s p 8 0 0 0 false).2.2 = true
  · rw [if_pos ha, dcd_err, if_neg (dc_ne (xor_lt hf0 o1) (xor_lt hf1 o2) hf2 hf3 hf4 hf5 hf6 hf7 (diff_0 hf0 hf1 hf2 hf3 hf4 hf5 hf6 hf7 o1 o2 o3 h0))]
    exact found_rest fu hf l hl20
  · rw [if_neg ha]
    exact found_rest fu hf l hl20
theorem tail_1 (fu : Nat) (hf : 1000 ≤ fu) (l : List (Int × Int)) (hl20 : l.length ≤ 20) {s p : Nat} (hs : s < 8) (hp : p < 256) (hp0 : p ≠ 0) {f0 f1 f2 f3 f4 f5 f6 f7 : Nat} (hf0 : f0 < 256) (hf1 : f1 < 256) (hf2 : f2 < 256) (hf3 : f3 < 256) (hf4 : f4 < 256) (hf5 : f5 < 256) (hf6 : f6 < 256) (hf7 : f7 < 256) (h0 : rmN [f0, f1, f2, f3, f4, f5, f6, f7] 0 = 0) : (Option.bind (l7_BusFound_L1 fu l ((8 + s : Nat) : Int) (p : Int) fu (f0 : Int) (f1 : Int) (f2 : Int) (f3 : Int) (f4 : Int) (f5 : Int) (f6 : Int) (f7 : Int) false (0 : Int)) fun o19 => Option.bind (bus_Decoded fu o19.1 o19.2.1 o19.2.2.1 o19.2.2.2.1 o19.2.2.2.2.1 o19.2.2.2.2.2.1 o19.2.2.2.2.2.2.1 o19.2.2.2.2.2.2.2.1) fun r20 => if o19.2.2.2.2.2.2.2.2 = true then (if r20.2.2.2.2.2.2.2 = (0 : Int) then (some false) else (Option.bind (l7_BusFound_L2 fu l fu ([] : List (Int)) ([] : List (Int)) ([] : List (Int)) (0 : Int)) fun o23 => Option.bind (b_CopyInts o23.1) fun r24 => Option.bind (bus_RemainderOf fu r24) fun r25 => Option.bind (b_CopyInts o23.2.1) fun r26 => Option.bind (bus_RemainderOf fu r26) fun r27 => Option.bind (bus_RemainderOf fu o23.2.2) fun r28 => if r25.2 = (0 : Int) then (if r27.2 = (0 : Int) then (if r28.2 = (0 : Int) then (if r28.1 = (Cm.bitE .xor .i64 r25.1 r27.1) then (Option.bind (b_Within r25.1 (0 : Int) (255 : Int)) fun r33 => if r33 = true then (if (o23.1.length : Int) < (65536 : Int) then (Option.bind (bus_RemainderOf fu (o23.1 ++ [r25.1])) fun r36 => if r36.2 = (0 : Int) then (if r36.1 = (0 : Int) then (some true) else (some false)) else (some false)) else none) else (some false)) else (some false)) else (some false)) else (some false)) else (some false))) else (Option.bind (l7_BusFound_L2 fu l fu ([] : List (Int)) ([] : List (Int)) ([] : List (Int)) (0 : Int)) fun o23 => Option.bind (b_CopyInts o23.1) fun r24 => Option.bind (bus_RemainderOf fu r24) fun r25 => Option.bind (b_CopyInts o23.2.1) fun r26 => Option.bind (bus_RemainderOf fu r26) fun r27 => Option.bind (bus_RemainderOf fu o23.2.2) fun r28 => if r25.2 = (0 : Int) then (if r27.2 = (0 : Int) then (if r28.2 = (0 : Int) then (if r28.1 = (Cm.bitE .xor .i64 r25.1 r27.1) then (Option.bind (b_Within r25.1 (0 : Int) (255 : Int)) fun r33 => if r33 = true then (if (o23.1.length : Int) < (65536 : Int) then (Option.bind (bus_RemainderOf fu (o23.1 ++ [r25.1])) fun r36 => if r36.2 = (0 : Int) then (if r36.1 = (0 : Int) then (some true) else (some false)) else (some false)) else none) else (some false)) else (some false)) else (some false)) else (some false)) else (some false))) = some true := by
  have e := found_1 fu l hs hp hf0 hf1 hf2 hf3 hf4 hf5 hf6 hf7 fu 0 0 0 false (by omega) (by omega) (by omega) (by omega)
  rw [show ((0 : Nat) : Int) = 0 from rfl] at e
  simp only [Nat.xor_zero, Nat.sub_zero] at e
  rw [e, Option.bind_some]
  simp only
  rw [a_decoded fu hf, Option.bind_some]
  obtain ⟨o1, o2, o3⟩ := hl_ok hs hp hp0
  by_cases ha : (hl s p 8 0 0 0 false).2.2 = true
  · rw [if_pos ha, dcd_err, if_neg (dc_ne hf0 (xor_lt hf1 o1) (xor_lt hf2 o2) hf3 hf4 hf5 hf6 hf7 (diff_1 hf0 hf1 hf2 hf3 hf4 hf5 hf6 hf7 o1 o2 o3 h0))]
    exact found_rest fu hf l hl20
  · rw [if_neg ha]
    exact found_rest fu hf l hl20
theorem tail_2 (fu : Nat) (hf : 1000 ≤ fu) (l : List (Int × Int)) (hl20 : l.length ≤ 20) {s p : Nat} (hs : s < 8) (hp : p < 256) (hp0 : p ≠ 0) {f0 f1 f2 f3 f4 f5 f6 f7 : Nat} (hf0 : f0 < 256) (hf1 : f1 < 256) (hf2 : f2 < 256) (hf3 : f3 < 256) (hf4 : f4 < 256) (hf5 : f5 < 256) (hf6 : f6 < 256) (hf7 : f7 < 256) (h0 : rmN [f0, f1, f2, f3, f4, f5, f6, f7] 0 = 0) : (Option.bind (l7_BusFound_L1 fu l ((16 + s : Nat) : Int) (p : Int) fu (f0 : Int) (f1 : Int) (f2 : Int) (f3 : Int) (f4 : Int) (f5 : Int) (f6 : Int) (f7 : Int) false (0 : Int)) fun o19 => Option.bind (bus_Decoded fu o19.1 o19.2.1 o19.2.2.1 o19.2.2.2.1 o19.2.2.2.2.1 o19.2.2.2.2.2.1 o19.2.2.2.2.2.2.1 o19.2.2.2.2.2.2.2.1) fun r20 => if o19.2.2.2.2.2.2.2.2 = true then (if r20.2.2.2.2.2.2.2 = (0 : Int) then (some false) else (Option.bind (l7_BusFound_L2 fu l fu ([] : List (Int)) ([] : List (Int)) ([] : List (Int)) (0 : Int)) fun o23 => Option.bind (b_CopyInts o23.1) fun r24 => Option.bind (bus_RemainderOf fu r24) fun r25 => Option.bind (b_CopyInts o23.2.1) fun r26 => Option.bind (bus_RemainderOf fu r26) fun r27 => Option.bind (bus_RemainderOf fu o23.2.2) fun r28 => if r25.2 = (0 : Int) then (if r27.2 = (0 : Int) then (if r28.2 = (0 : Int) then (if r28.1 = (Cm.bitE .xor .i64 r25.1 r27.1) then (Option.bind (b_Within r25.1 (0 : Int) (255 : Int)) fun r33 => if r33 = true then (if (o23.1.length : Int) < (65536 : Int) then (Option.bind (bus_RemainderOf fu (o23.1 ++ [r25.1])) fun r36 => if r36.2 = (0 : Int) then (if r36.1 = (0 : Int) then (some true) else (some false)) else (some false)) else none) else (some false)) else (some false)) else (some false)) else (some false)) else (some false))) else (Option.bind (l7_BusFound_L2 fu l fu ([] : List (Int)) ([] : List (Int)) ([] : List (Int)) (0 : Int)) fun o23 => Option.bind (b_CopyInts o23.1) fun r24 => Option.bind (bus_RemainderOf fu r24) fun r25 => Option.bind (b_CopyInts o23.2.1) fun r26 => Option.bind (bus_RemainderOf fu r26) fun r27 => Option.bind (bus_RemainderOf fu o23.2.2) fun r28 => if r25.2 = (0 : Int) then (if r27.2 = (0 : Int) then (if r28.2 = (0 : Int) then (if r28.1 = (Cm.bitE .xor .i64 r25.1 r27.1) then (Option.bind (b_Within r25.1 (0 : Int) (255 : Int)) fun r33 => if r33 = true then (if (o23.1.length : Int) < (65536 : Int) then (Option.bind (bus_RemainderOf fu (o23.1 ++ [r25.1])) fun r36 => if r36.2 = (0 : Int) then (if r36.1 = (0 : Int) then (some true) else (some false)) else (some false)) else none) else (some false)) else (some false)) else (some false)) else (some false)) else (some false))) = some true := by
  have e := found_2 fu l hs hp hf0 hf1 hf2 hf3 hf4 hf5 hf6 hf7 fu 0 0 0 false (by omega) (by omega) (by omega) (by omega)
  rw [show ((0 : Nat) : Int) = 0 from rfl] at e
  simp only [Nat.xor_zero, Nat.sub_zero] at e
  rw [e, Option.bind_some]
  simp only
  rw [a_decoded fu hf, Option.bind_some]
  obtain ⟨o1, o2, o3⟩ := hl_ok hs hp hp0
  by_cases ha : (hl s p 8 0 0 0 false).2.2 = true
  · rw [if_pos ha, dcd_err, if_neg (dc_ne hf0 hf1 (xor_lt hf2 o1) (xor_lt hf3 o2) hf4 hf5 hf6 hf7 (diff_2 hf0 hf1 hf2 hf3 hf4 hf5 hf6 hf7 o1 o2 o3 h0))]
    exact found_rest fu hf l hl20
  · rw [if_neg ha]
    exact found_rest fu hf l hl20
theorem tail_3 (fu : Nat) (hf : 1000 ≤ fu) (l : List (Int × Int)) (hl20 : l.length ≤ 20) {s p : Nat} (hs : s < 8) (hp : p < 256) (hp0 : p ≠ 0) {f0 f1 f2 f3 f4 f5 f6 f7 : Nat} (hf0 : f0 < 256) (hf1 : f1 < 256) (hf2 : f2 < 256) (hf3 : f3 < 256) (hf4 : f4 < 256) (hf5 : f5 < 256) (hf6 : f6 < 256) (hf7 : f7 < 256) (h0 : rmN [f0, f1, f2, f3, f4, f5, f6, f7] 0 = 0) : (Option.bind (l7_BusFound_L1 fu l ((24 + s : Nat) : Int) (p : Int) fu (f0 : Int) (f1 : Int) (f2 : Int) (f3 : Int) (f4 : Int) (f5 : Int) (f6 : Int) (f7 : Int) false (0 : Int)) fun o19 => Option.bind (bus_Decoded fu o19.1 o19.2.1 o19.2.2.1 o19.2.2.2.1 o19.2.2.2.2.1 o19.2.2.2.2.2.1 o19.2.2.2.2.2.2.1 o19.2.2.2.2.2.2.2.1) fun r20 => if o19.2.2.2.2.2.2.2.2 = true then (if r20.2.2.2.2.2.2.2 = (0 : Int) then (some false) else (Option.bind (l7_BusFound_L2 fu l fu ([] : List (Int)) ([] : List (Int)) ([] : List (Int)) (0 : Int)) fun o23 => Option.bind (b_CopyInts o23.1) fun r24 => Option.bind (bus_RemainderOf fu r24) fun r25 => Option.bind (b_CopyInts o23.2.1) fun r26 => Option.bind (bus_RemainderOf fu r26) fun r27 => Option.bind (bus_RemainderOf fu o23.2.2) fun r28 => if r25.2 = (0 : Int) then (if r27.2 = (0 : Int) then (if r28.2 = (0 : Int) then (if r28.1 = (Cm.bitE .xor .i64 r25.1 r27.1) then (Option.bind (b_Within r25.1 (0 : Int) (255 : Int)) fun r33 => if r33 = true then (if (o23.1.length : Int) < (65536 : Int) then (Option.bind (bus_RemainderOf fu (o23.1 ++ [r25.1])) fun r36 => if r36.2 = (0 : Int) then (if r36.1 = (0 : Int) then (some true) else (some false)) else (some false)) else none) else (some false)) else (some false)) else (some false)) else (some false)) else (some false))) else (Option.bind (l7_BusFound_L2 fu l fu ([] : List (Int)) ([] : List (Int)) ([] : List (Int)) (0 : Int)) fun o23 => Option.bind (b_CopyInts o23.1) fun r24 => Option.bind (bus_RemainderOf fu r24) fun r25 => Option.bind (b_CopyInts o23.2.1) fun r26 => Option.bind (bus_RemainderOf fu r26) fun r27 => Option.bind (bus_RemainderOf fu o23.2.2) fun r28 => if r25.2 = (0 : Int) then (if r27.2 = (0 : Int) then (if r28.2 = (0 : Int) then (if r28.1 = (Cm.bitE .xor .i64 r25.1 r27.1) then (Option.bind (b_Within r25.1 (0 : Int) (255 : Int)) fun r33 => if r33 = true then (if (o23.1.length : Int) < (65536 : Int) then (Option.bind (bus_RemainderOf fu (o23.1 ++ [r25.1])) fun r36 => if r36.2 = (0 : Int) then (if r36.1 = (0 : Int) then (some true) else (some false)) else (some false)) else none) else (some false)) else (some false)) else (some false)) else (some false)) else (some false))) = some true := by
  have e := found_3 fu l hs hp hf0 hf1 hf2 hf3 hf4 hf5 hf6 hf7 fu 0 0 0 false (by omega) (by omega) (by omega) (by omega)
  rw [show ((0 : Nat) : Int) = 0 from rfl] at e
  simp only [Nat.xor_zero, Nat.sub_zero] at e
  rw [e, Option.bind_some]
  simp only
  rw [a_decoded fu hf, Option.bind_some]
  obtain ⟨o1, o2, o3⟩ := hl_ok hs hp hp0
  by_cases ha : (hl s p 8 0 0 0 false).2.2 = true
  · rw [if_pos ha, dcd_err, if_neg (dc_ne hf0 hf1 hf2 (xor_lt hf3 o1) (xor_lt hf4 o2) hf5 hf6 hf7 (diff_3 hf0 hf1 hf2 hf3 hf4 hf5 hf6 hf7 o1 o2 o3 h0))]
    exact found_rest fu hf l hl20
  · rw [if_neg ha]
    exact found_rest fu hf l hl20
theorem tail_4 (fu : Nat) (hf : 1000 ≤ fu) (l : List (Int × Int)) (hl20 : l.length ≤ 20) {s p : Nat} (hs : s < 8) (hp : p < 256) (hp0 : p ≠ 0) {f0 f1 f2 f3 f4 f5 f6 f7 : Nat} (hf0 : f0 < 256) (hf1 : f1 < 256) (hf2 : f2 < 256) (hf3 : f3 < 256) (hf4 : f4 < 256) (hf5 : f5 < 256) (hf6 : f6 < 256) (hf7 : f7 < 256) (h0 : rmN [f0, f1, f2, f3, f4, f5, f6, f7] 0 = 0) : (Option.bind (l7_BusFound_L1 fu l ((32 + s : Nat) : Int) (p : Int) fu (f0 : Int) (f1 : Int) (f2 : Int) (f3 : Int) (f4 : Int) (f5 : Int) (f6 : Int) (f7 : Int) false (0 : Int)) fun o19 => Option.bind (bus_Decoded fu o19.1 o19.2.1 o19.2.2.1 o19.2.2.2.1 o19.2.2.2.2.1 o19.2.2.2.2.2.1 o19.2.2.2.2.2.2.1 o19.2.2.2.2.2.2.2.1) fun r20 => if o19.2.2.2.2.2.2.2.2 = true then (if r20.2.2.2.2.2.2.2 = (0 : Int) then (some false) else (Option.bind (l7_BusFound_L2 fu l fu ([] : List (Int)) ([] : List (Int)) ([] : List (Int)) (0 : Int)) fun o23 => Option.bind (b_CopyInts o23.1) fun r24 => Option.bind (bus_RemainderOf fu r24) fun r25 => Option.bind (b_CopyInts o23.2.1) fun r26 => Option.bind (bus_RemainderOf fu r26) fun r27 => Option.bind (bus_RemainderOf fu o23.2.2) fun r28 => if r25.2 = (0 : Int) then (if r27.2 = (0 : Int) then (if r28.2 = (0 : Int) then (if r28.1 = (Cm.bitE .xor .i64 r25.1 r27.1) then (Option.bind (b_Within r25.1 (0 : Int) (255 : Int)) fun r33 => if r33 = true then (if (o23.1.length : Int) < (65536 : Int) then (Option.bind (bus_RemainderOf fu (o23.1 ++ [r25.1])) fun r36 => if r36.2 = (0 : Int) then (if r36.1 = (0 : Int) then (some true) else (some false)) else (some false)) else none) else (some false)) else (some false)) else (some false)) else (some false)) else (some false))) else (Option.bind (l7_BusFound_L2 fu l fu ([] : List (Int)) ([] : List (Int)) ([] : List (Int)) (0 : Int)) fun o23 => Option.bind (b_CopyInts o23.1) fun r24 => Option.bind (bus_RemainderOf fu r24) fun r25 => Option.bind (b_CopyInts o23.2.1) fun r26 => Option.bind (bus_RemainderOf fu r26) fun r27 => Option.bind (bus_RemainderOf fu o23.2.2) fun r28 => if r25.2 = (0 : Int) then (if r27.2 = (0 : Int) then (if r28.2 = (0 : Int) then (if r28.1 = (Cm.bitE .xor .i64 r25.1 r27.1) then (Option.bind (b_Within r25.1 (0 : Int) (255 : Int)) fun r33 => if r33 = true then (if (o23.1.length : Int) < (65536 : Int) then (Option.bind (bus_RemainderOf fu (o23.1 ++ [r25.1])) fun r36 => if r36.2 = (0 : Int) then (if r36.1 = (0 : Int) then (some true) else (some false)) else (some false)) else none) else (some false)) else (some false)) else (some false)) else (some false)) else (some false))) = some true := by
  have e := found_4 fu l hs hp hf0 hf1 hf2 hf3 hf4 hf5 hf6 hf7 fu 0 0 0 false (by omega) (by omega) (by omega) (by omega)
  rw [show ((0 : Nat) : Int) = 0 from rfl] at e
  simp only [Nat.xor_zero, Nat.sub_zero] at e
  rw [e, Option.bind_some]
  simp only
  rw [a_decoded fu hf, Option.bind_some]
  obtain ⟨o1, o2, o3⟩ := hl_ok hs hp hp0
  by_cases ha : (hl s p 8 0 0 0 false).2.2 = true
  · rw [if_pos ha, dcd_err, if_neg (dc_ne hf0 hf1 hf2 hf3 (xor_lt hf4 o1) (xor_lt hf5 o2) hf6 hf7 (diff_4 hf0 hf1 hf2 hf3 hf4 hf5 hf6 hf7 o1 o2 o3 h0))]
    exact found_rest fu hf l hl20
  · rw [if_neg ha]
    exact found_rest fu hf l hl20
theorem tail_5 (fu : Nat) (hf : 1000 ≤ fu) (l : List (Int × Int)) (hl20 : l.length ≤ 20) {s p : Nat} (hs : s < 8) (hp : p < 256) (hp0 : p ≠ 0) {f0 f1 f2 f3 f4 f5 f6 f7 : Nat} (hf0 : f0 < 256) (hf1 : f1 < 256) (hf2 : f2 < 256) (hf3 : f3 < 256) (hf4 : f4 < 256) (hf5 : f5 < 256) (hf6 : f6 < 256) (hf7 : f7 < 256) (h0 : rmN [f0, f1, f2, f3, f4, f5, f6, f7] 0 = 0) : (Option.bind (l7_BusFound_L1 fu l ((40 + s : Nat) : Int) (p : Int) fu (f0 : Int) (f1 : Int) (f2 : Int) (f3 : Int) (f4 : Int) (f5 : Int) (f6 : Int) (f7 : Int) false (0 : Int)) fun o19 => Option.bind (bus_Decoded fu o19.1 o19.2.1 o19.2.2.1 o19.2.2.2.1 o19.2.2.2.2.1 o19.2.2.2.2.2.1 o19.2.2.2.2.2.2.1 o19.2.2.2.2.2.2.2.1) fun r20 => if o19.2.2.2.2.2.2.2.2 = true then (if r20.2.2.2.2.2.2.2 = (0 : Int) then (some false) else (Option.bind (l7_BusFound_L2 fu l fu ([] : List (Int)) ([] : List (Int)) ([] : List (Int)) (0 : Int)) fun o23 => Option.bind (b_CopyInts o23.1) fun r24 => Option.bind (bus_RemainderOf fu r24) fun r25 => Option.bind (b_CopyInts o23.2.1) fun r26 => Option.bind (bus_RemainderOf fu r26) fun r27 => Option.bind (bus_RemainderOf fu o23.2.2) fun r28 => if r25.2 = (0 : Int) then (if r27.2 = (0 : Int) then (if r28.2 = (0 : Int) then (if r28.1 = (Cm.bitE .xor .i64 r25.1 r27.1) then (Option.bind (b_Within r25.1 (0 : Int) (255 : Int)) fun r33 => if r33 = true then (if (o23.1.length : Int) < (65536 : Int) then (Option.bind (bus_RemainderOf fu (o23.1 ++ [r25.1])) fun r36 => if r36.2 = (0 : Int) then (if r36.1 = (0 : Int) then (some true) else (some false)) else (some false)) else none) else (some false)) else (some false)) else (some false)) else (some false)) else (some false))) else (Option.bind (l7_BusFound_L2 fu l fu ([] : List (Int)) ([] : List (Int)) ([] : List (Int)) (0 : Int)) fun o23 => Option.bind (b_CopyInts o23.1) fun r24 => Option.bind (bus_RemainderOf fu r24) fun r25 => Option.bind (b_CopyInts o23.2.1) fun r26 => Option.bind (bus_RemainderOf fu r26) fun r27 => Option.bind (bus_RemainderOf fu o23.2.2) fun r28 => if r25.2 = (0 : Int) then (if r27.2 = (0 : Int) then (if r28.2 = (0 : Int) then (if r28.1 = (Cm.bitE .xor .i64 r25.1 r27.1) then (Option.bind (b_Within r25.1 (0 : Int) (255 : Int)) fun r33 => if r33 = true then (if (o23.1.length : Int) < (65536 : Int) then (Option.bind (bus_RemainderOf fu (o23.1 ++ [r25.1])) fun r36 => if r36.2 = (0 : Int) then (if r36.1 = (0 : Int) then (some true) else (some false)) else (some false)) else none) else (some false)) else (some false)) else (some false)) else (some false)) else (some false))) = some true := by
  have e := found_5 fu l hs hp hf0 hf1 hf2 hf3 hf4 hf5 hf6 hf7 fu 0 0 0 false (by omega) (by omega) (by omega) (by omega)
  rw [show ((0 : Nat) : Int) = 0 from rfl] at e
  simp only [Nat.xor_zero, Nat.sub_zero] at e
  rw [e, Option.bind_some]
  simp only
  rw [a_decoded fu hf, Option.bind_some]
  obtain ⟨o1, o2, o3⟩ := hl_ok hs hp hp0
  by_cases ha : (hl s p 8 0 0 0 false).2.2 = true
  · rw [if_pos ha, dcd_err, if_neg (dc_ne hf0 hf1 hf2 hf3 hf4 (xor_lt hf5 o1) (xor_lt hf6 o2) hf7 (diff_5 hf0 hf1 hf2 hf3 hf4 hf5 hf6 hf7 o1 o2 o3 h0))]
    exact found_rest fu hf l hl20
  · rw [if_neg ha]
    exact found_rest fu hf l hl20
theorem tail_6 (fu : Nat) (hf : 1000 ≤ fu) (l : List (Int × Int)) (hl20 : l.length ≤ 20) {s p : Nat} (hs : s < 8) (hp : p < 256) (hp0 : p ≠ 0) {f0 f1 f2 f3 f4 f5 f6 f7 : Nat} (hf0 : f0 < 256) (hf1 : f1 < 256) (hf2 : f2 < 256) (hf3 : f3 < 256) (hf4 : f4 < 256) (hf5 : f5 < 256) (hf6 : f6 < 256) (hf7 : f7 < 256) (h0 : rmN [f0, f1, f2, f3, f4, f5, f6, f7] 0 = 0) : (Option.bind (l7_BusFound_L1 fu l ((48 + s : Nat) : Int) (p : Int) fu (f0 : Int) (f1 : Int) (f2 : Int) (f3 : Int) (f4 : Int) (f5 : Int) (f6 : Int) (f7 : Int) false (0 : Int)) fun o19 => Option.bind (bus_Decoded fu o19.1 o19.2.1 o19.2.2.1 o19.2.2.2.1 o19.2.2.2.2.1 o19.2.2.2.2.2.1 o19.2.2.2.2.2.2.1 o19.2.2.2.2.2.2.2.1) fun r20 => if o19.2.2.2.2.2.2.2.2 = true then (if r20.2.2.2.2.2.2.2 = (0 : Int) then (some false) else (Option.bind (l7_BusFound_L2 fu l fu ([] : List (Int)) ([] : List (Int)) ([] : List (Int)) (0 : Int)) fun o23 => Option.bind (b_CopyInts o23.1) fun r24 => Option.bind (bus_RemainderOf fu r24) fun r25 => Option.bind (b_CopyInts o23.2.1) fun r26 => Option.bind (bus_RemainderOf fu r26) fun r27 => Option.bind (bus_RemainderOf fu o23.2.2) fun r28 => if r25.2 = (0 : Int) then (if r27.2 = (0 : Int) then (if r28.2 = (0 : Int) then (if r28.1 = (Cm.bitE .xor .i64 r25.1 r27.1) then (Option.bind (b_Within r25.1 (0 : Int) (255 : Int)) fun r33 => if r33 = true then (if (o23.1.length : Int) < (65536 : Int) then (Option.bind (bus_RemainderOf fu (o23.1 ++ [r25.1])) fun r36 => if r36.2 = (0 : Int) then (if r36.1 = (0 : Int) then (some true) else (some false)) else (some false)) else none) else (some false)) else (some false)) else (some false)) else (some false)) else (some false))) else (Option.bind (l7_BusFound_L2 fu l fu ([] : List (Int)) ([] : List (Int)) ([] : List (Int)) (0 : Int)) fun o23 => Option.bind (b_CopyInts o23.1) fun r24 => Option.bind (bus_RemainderOf fu r24) fun r25 => Option.bind (b_CopyInts o23.2.1) fun r26 => Option.bind (bus_RemainderOf fu r26) fun r27 => Option.bind (bus_RemainderOf fu o23.2.2) fun r28 => if r25.2 = (0 : Int) then (if r27.2 = (0 : Int) then (if r28.2 = (0 : Int) then (if r28.1 = (Cm.bitE .xor .i64 r25.1 r27.1) then (Option.bind (b_Within r25.1 (0 : Int) (255 : Int)) fun r33 => if r33 = true then (if (o23.1.length : Int) < (65536 : Int) then (Option.bind (bus_RemainderOf fu (o23.1 ++ [r25.1])) fun r36 => if r36.2 = (0 : Int) then (if r36.1 = (0 : Int) then (some true) else (some false)) else (some false)) else none) else (some false)) else (some false)) else (some false)) else (some false)) else (some false))) = some true := by
  have e := found_6 fu l hs hp hf0 hf1 hf2 hf3 hf4 hf5 hf6 hf7 fu 0 0 0 false (by omega) (by omega) (by omega) (by omega)
  rw [show ((0 : Nat) : Int) = 0 from rfl] at e
  simp only [Nat.xor_zero, Nat.sub_zero] at e
  rw [e, Option.bind_some]
  simp only
  rw [a_decoded fu hf, Option.bind_some]
  obtain ⟨o1, o2, o3⟩ := hl_ok hs hp hp0
  by_cases ha : (hl s p 8 0 0 0 false).2.2 = true
  · rw [if_pos ha, dcd_err, if_neg (dc_ne hf0 hf1 hf2 hf3 hf4 hf5 (xor_lt hf6 o1) (xor_lt hf7 o2) (diff_6 hf0 hf1 hf2 hf3 hf4 hf5 hf6 hf7 o1 o2 o3 h0))]
    exact found_rest fu hf l hl20
  · rw [if_neg ha]
    exact found_rest fu hf l hl20
theorem tail_7 (fu : Nat) (hf : 1000 ≤ fu) (l : List (Int × Int)) (hl20 : l.length ≤ 20) {s p : Nat} (hs : s < 8) (hp : p < 256) (hp0 : p ≠ 0) {f0 f1 f2 f3 f4 f5 f6 f7 : Nat} (hf0 : f0 < 256) (hf1 : f1 < 256) (hf2 : f2 < 256) (hf3 : f3 < 256) (hf4 : f4 < 256) (hf5 : f5 < 256) (hf6 : f6 < 256) (hf7 : f7 < 256) (h0 : rmN [f0, f1, f2, f3, f4, f5, f6, f7] 0 = 0) : (Option.bind (l7_BusFound_L1 fu l ((56 + s : Nat) : Int) (p : Int) fu (f0 : Int) (f1 : Int) (f2 : Int) (f3 : Int) (f4 : Int) (f5 : Int) (f6 : Int) (f7 : Int) false (0 : Int)) fun o19 => Option.bind (bus_Decoded fu o19.1 o19.2.1 o19.2.2.1 o19.2.2.2.1 o19.2.2.2.2.1 o19.2.2.2.2.2.1 o19.2.2.2.2.2.2.1 o19.2.2.2.2.2.2.2.1) fun r20 => if o19.2.2.2.2.2.2.2.2 = true then (if r20.2.2.2.2.2.2.2 = (0 : Int) then (some false) else (Option.bind (l7_BusFound_L2 fu l fu ([] : List (Int)) ([] : List (Int)) ([] : List (Int)) (0 : Int)) fun o23 => Option.bind (b_CopyInts o23.1) fun r24 => Option.bind (bus_RemainderOf fu r24) fun r25 => Option.bind (b_CopyInts o23.2.1) fun r26 => Option.bind (bus_RemainderOf fu r26) fun r27 => Option.bind (bus_RemainderOf fu o23.2.2) fun r28 => if r25.2 = (0 : Int) then (if r27.2 = (0 : Int) then (if r28.2 = (0 : Int) then (if r28.1 = (Cm.bitE .xor .i64 r25.1 r27.1) then (Option.bind (b_Within r25.1 (0 : Int) (255 : Int)) fun r33 => if r33 = true then (if (o23.1.length : Int) < (65536 : Int) then (Option.bind (bus_RemainderOf fu (o23.1 ++ [r25.1])) fun r36 => if r36.2 = (0 : Int) then (if r36.1 = (0 : Int) then (some true) else (some false)) else (some false)) else none) else (some false)) else (some false)) else (some false)) else (some false)) else (some false))) else (Option.bind (l7_BusFound_L2 fu l fu ([] : List (Int)) ([] : List (Int)) ([] : List (Int)) (0 : Int)) fun o23 => Option.bind (b_CopyInts o23.1) fun r24 => Option.bind (bus_RemainderOf fu r24) fun r25 => Option.bind (b_CopyInts o23.2.1) fun r26 => Option.bind (bus_RemainderOf fu r26) fun r27 => Option.bind (bus_RemainderOf fu o23.2.2) fun r28 => if r25.2 = (0 : Int) then (if r27.2 = (0 : Int) then (if r28.2 = (0 : Int) then (if r28.1 = (Cm.bitE .xor .i64 r25.1 r27.1) then (Option.bind (b_Within r25.1 (0 : Int) (255 : Int)) fun r33 => if r33 = true then (if (o23.1.length : Int) < (65536 : Int) then (Option.bind (bus_RemainderOf fu (o23.1 ++ [r25.1])) fun r36 => if r36.2 = (0 : Int) then (if r36.1 = (0 : Int) then (some true) else (some false)) else (some false)) else none) else (some false)) else (some false)) else (some false)) else (some false)) else (some false))) = some true := by
  have e := found_7 fu l hs hp hf0 hf1 hf2 hf3 hf4 hf5 hf6 hf7 fu 0 0 false (by omega) (by omega) (by omega)
  rw [show ((0 : Nat) : Int) = 0 from rfl] at e
  simp only [Nat.xor_zero, Nat.sub_zero] at e
  rw [e, Option.bind_some]
  simp only
  rw [a_decoded fu hf, Option.bind_some]
  obtain ⟨o1, o3⟩ := h7_ok hs hp
  by_cases ha : (h7 s p 8 0 0 false).2 = true
  · rw [if_pos ha, dcd_err, if_neg (dc_ne hf0 hf1 hf2 hf3 hf4 hf5 hf6 (xor_lt hf7 o1) (diff_7 hf0 hf1 hf2 hf3 hf4 hf5 hf6 hf7 o1 (o3 ha) h0))]
    exact found_rest fu hf l hl20
  · rw [if_neg ha]
    exact found_rest fu hf l hl20
theorem l7_BusFound_true (s n k a b c d : Int) (l : List (Int × Int)) (x y : Int) : ∃ fu, l7_BusFound fu s n k a b c d l x y = some true := by
  refine ⟨2000, ?_⟩
  generalize hfu : 2000 = fu
  have hf : 1500 ≤ fu := by omega
  clear hfu
  unfold l7_BusFound l7_awake
  rw [Option.bind_some, if_pos rfl, a_msgErr fu (by omega), Option.bind_some]
  by_cases hm : msgE s n k [a, b, c, d] = 0
  · rw [if_pos hm]
    by_cases h20 : (20 : Int) < (l.length : Int)
    · rw [if_pos h20]
    · rw [if_neg h20, a_encoded fu (by omega), if_pos hm, Option.bind_some]
      simp only
      obtain ⟨f0, f1, f2, f3, f4, f5, f6, ⟨rfl, rfl, rfl, rfl, rfl, rfl, rfl⟩, b0, b1, b2, b3, b4, b5, b6⟩ := msg_nat hm
      have hR := rm7 b0 b1 b2 b3 b4 b5 b6
      have hz : rmN [f0, f1, f2, f3, f4, f5, f6, rmN [f0, f1, f2, f3, f4, f5, f6] 0] 0 = 0 := by rw [rm8, Nat.xor_self, it8_zero]
      have hd : dcd [(f0 : Int), f1, f2, f3, f4, f5, f6, (rmN [f0, f1, f2, f3, f4, f5, f6] 0 : Int)] f0 f1 f2 f3 f4 f5 f6 (rmN [f0, f1, f2, f3, f4, f5, f6] 0 : Int) = ((f0 : Int), (f1 : Int), (f2 : Int), (f3 : Int), (f4 : Int), (f5 : Int), (f6 : Int), 0) := by
        have hc : dcE [(f0 : Int), f1, f2, f3, f4, f5, f6, (rmN [f0, f1, f2, f3, f4, f5, f6] 0 : Int)] f0 f1 f2 f3 f4 f5 f6 (rmN [f0, f1, f2, f3, f4, f5, f6] 0 : Int) = 0 := by
          unfold dcE byE
          have hal : [(f0 : Int), f1, f2, f3, f4, f5, f6, (rmN [f0, f1, f2, f3, f4, f5, f6] 0 : Int)].all isB = true := by
            simp only [List.all_cons, List.all_nil, isB_nat b0, isB_nat b1, isB_nat b2, isB_nat b3, isB_nat b4, isB_nat b5, isB_nat b6, isB_nat hR.2, Bool.and_true]
          rw [hal, if_pos rfl, if_pos rfl, if_pos hR.1.symm, hm]
        unfold dcd
        rw [if_pos hc]
      rw [if_pos trivial, hR.1, a_decoded fu (by omega), hd, Option.bind_some]
      simp only
      rw [if_pos trivial, if_pos trivial, if_pos trivial, if_pos trivial, if_pos trivial, if_pos trivial, if_pos trivial, if_pos trivial, a_mod (by decide), Option.bind_some, a_mod (by decide), Option.bind_some]
      obtain ⟨m0, m1⟩ := md_range (a := x) (show (0 : Int) < 64 by omega) (by omega)
      obtain ⟨m2, m3⟩ := md_range (a := y) (show (0 : Int) < 255 by omega) (by omega)
      obtain ⟨j1, s1, hj1, hs1, h1⟩ : ∃ j1 s1 : Nat, j1 < 8 ∧ s1 < 8 ∧ md x 64 = ((8 * j1 + s1 : Nat) : Int) := ⟨(md x 64).toNat / 8, (md x 64).toNat % 8, by omega, by omega, by omega⟩
      obtain ⟨p, hp, hp0, h2⟩ : ∃ p : Nat, p < 256 ∧ p ≠ 0 ∧ IntKind.wrap .i64 (1 + md y 255) = (p : Int) := ⟨(1 + md y 255).toNat, by omega, by omega, by rw [wrapB (by omega) (by omega)]; omega⟩
      rw [h2]
      have hj : j1 = 0 ∨ j1 = 1 ∨ j1 = 2 ∨ j1 = 3 ∨ j1 = 4 ∨ j1 = 5 ∨ j1 = 6 ∨ j1 = 7 := by omega
      rcases hj with rfl | rfl | rfl | rfl | rfl | rfl | rfl | rfl
      · rw [h1, show 8 * 0 + s1 = 0 + s1 by omega]
        exact tail_0 fu (by omega) l (by omega) hs1 hp hp0 b0 b1 b2 b3 b4 b5 b6 hR.2 hz
      · rw [h1, show 8 * 1 + s1 = 8 + s1 by omega]
        exact tail_1 fu (by omega) l (by omega) hs1 hp hp0 b0 b1 b2 b3 b4 b5 b6 hR.2 hz
      · rw [h1, show 8 * 2 + s1 = 16 + s1 by omega]
        exact tail_2 fu (by omega) l (by omega) hs1 hp hp0 b0 b1 b2 b3 b4 b5 b6 hR.2 hz
      · rw [h1, show 8 * 3 + s1 = 24 + s1 by omega]
        exact tail_3 fu (by omega) l (by omega) hs1 hp hp0 b0 b1 b2 b3 b4 b5 b6 hR.2 hz
      · rw [h1, show 8 * 4 + s1 = 32 + s1 by omega]
        exact tail_4 fu (by omega) l (by omega) hs1 hp hp0 b0 b1 b2 b3 b4 b5 b6 hR.2 hz
      · rw [h1, show 8 * 5 + s1 = 40 + s1 by omega]
        exact tail_5 fu (by omega) l (by omega) hs1 hp hp0 b0 b1 b2 b3 b4 b5 b6 hR.2 hz
      · rw [h1, show 8 * 6 + s1 = 48 + s1 by omega]
        exact tail_6 fu (by omega) l (by omega) hs1 hp hp0 b0 b1 b2 b3 b4 b5 b6 hR.2 hz
      · rw [h1, show 8 * 7 + s1 = 56 + s1 by omega]
        exact tail_7 fu (by omega) l (by omega) hs1 hp hp0 b0 b1 b2 b3 b4 b5 b6 hR.2 hz
  · rw [if_neg hm]
end Go.Proofs.Ytefkmidmjofdcaa
