/-
  Walks of chapter 1's lines: the iterator over the links and Z of their tensions; what ranges over it.
-/
import Derived.Test.YtegkppphaglpgaaLc
namespace Go.Proofs.Ytegkppphaglpgaa
open Go.RowKit Go.Shelf
attribute [local go_sem] Oper.semAt_some wide_fn wide_depth round_fn round_depth

def lifts (l : Ln) : List (Nat × Int) := (List.range l.ks.length).map fun i => (i, (zs l).getD i 0)
def encL (x : Nat × Int) : Array Value := #[.int .i64 (x.1 : Int), .int .i64 x.2]
theorem lifts_len (l : Ln) : (lifts l).length = l.ks.length := by simp [lifts]
theorem lifts_at (l : Ln) (i : Nat) (h : i < (lifts l).length) : (lifts l)[i] = (i, (zs l).getD i 0) := by simp [lifts]
theorem zs_len (l : Ln) : (zs l).length = l.ks.length := zsF_len _ _
/-- Z before the link k. -/
def zb (l : Ln) (k : Nat) : Int := (l.z :: zs l).getD k 0
theorem zb_succ (l : Ln) (k : Nat) (h : k < l.ks.length) : zb l (k + 1) = zb l k + l.ks[k].2.1 ∧ (zs l).getD k 0 = zb l (k + 1) := by
  have := zsF_at l.z l.ks k h
  have e : zb l (k + 1) = (zs l).getD k 0 := by unfold zb; rw [List.getD_cons_succ]
  refine ⟨?_, e.symm⟩
  rw [e]
  unfold zb zs
  rw [List.getD_eq_getElem?_getD, this]
  rfl
theorem zb_bd {l : Ln} (hl : LnOk l) (k : Nat) (h : k ≤ l.ks.length) : -20000 ≤ zb l k ∧ zb l k ≤ 20000 := by
  unfold zb
  cases k with
  | zero => have := hl.z0; have := hl.z1; simp; omega
  | succ k =>
    rw [List.getD_cons_succ]
    have hk : k < (zs l).length := by rw [zs_len]; omega
    rw [getD_eq _ _ _ hk]
    exact zs_bd hl _ (List.getElem_mem _)
theorem lifts_any (l : Ln) (v : Value) (w : World) (hv : ∃ A n c, v = .slice A n c) :
    Calls Try.prog 95 #[.agg #[.int .i64 l.x, .int .i64 l.z, v]] w fun e w' => e = .returned (.func (.func 137) #[] #[.pointer (some ⟨w.heap.size, 0, none⟩)]) ∧ w.alloc (.cells #[.int .i64 l.x, .int .i64 l.z, v] 141) = w' := by
  obtain ⟨A, n, c, rfl⟩ := hv
  go_enter Try.func95, Try.ntmps95
  go_wp2
  go_ret
  exact ⟨rfl, rfl⟩

set_option maxHeartbeats 2000000 in
theorem lifts_seq (Bx : Nat) (v : Value) (l : Ln) (w : World) (hl : LnOk l) (hb1 : w.cell? ⟨Bx, 1, none⟩ = some (.int .i64 l.z)) (hb2 : w.cell? ⟨Bx, 2, none⟩ = some v) (hs : Sl e3 3 w v l.ks)
    (S : Nat → Prop) (_hS : S Bx) (hSv : ∀ b, v.ownBlock = some b → S b) :
    SeqX Try.prog 137 #[.pointer (some ⟨Bx, 0, none⟩)] encL S (lifts l) w := by
  intro lp J Jx W hW hJ hJx hY h0
  have hBx := cell_lt hb2
  simp only at hBx
  have hBxW : Bx < W.heap.size := Nat.lt_of_lt_of_le hBx hW.size
  have hzW : W.cell? ⟨Bx, 1, none⟩ = some (.int .i64 l.z) := (hW.cell (p := ⟨Bx, 1, none⟩) hBx).trans hb1
  have hbW : W.cell? ⟨Bx, 2, none⟩ = some v := (hW.cell (p := ⟨Bx, 2, none⟩) hBx).trans hb2
  have hsW : Sl e3 3 W v l.ks := hs.below hW
  clear hb1 hb2 hs hW hBx
  obtain ⟨A, c, rfl, hcap⟩ := hsW.form
  have hn1 := hl.n1
  have HL := Lib.hid hl
  have HY := Lib.hid hY
  have HJ := Lib.hid hJ
  have HJx := Lib.hid hJx
  have HSW := Lib.hid hsW
  clear hY hJ hJx hl hsW
  refine callsIn_of_wp Try.func137 rfl trivial ?_ rfl
  simp only [Try.ntmps137, List.size_toArray, List.length_cons, List.length_nil, Nat.reduceAdd, Nat.reduceSub, Array.replicate_succ, Array.replicate_zero, List.push_toArray, List.append_toArray, List.nil_append, List.cons_append]
  gi_wp2
  gi_loopw [3, 4, 5, 14] (fun z _ _ i wr => ∃ k : Nat, k ≤ l.ks.length ∧ i = .int .i64 k ∧ z = .int .i64 (zb l k) ∧ J ((lifts l).take k) wr ∧ Bx < wr.heap.size ∧ Sl e3 3 wr (.slice A l.ks.length c) l.ks)
    (fun _ _ _ i _ => l.ks.length - (intOf i).toNat)
  case atStart => exact ⟨0, Nat.zero_le _, rfl, rfl, h0, hBxW, HSW.out⟩
  case round =>
    obtain ⟨k, hk, rfl, rfl, hJs, hBr, hsr⟩ := hrel
    by_cases hlt : k < l.ks.length
    · obtain ⟨b, off, rfl, hbl, hc0, hc1, hc2⟩ := hsr.at3 hlt
      obtain ⟨hz1, hz2⟩ := zb_succ l k hlt
      have hwl : k < (lifts l).length := by rw [lifts_len]; exact hlt
      have hway : (lifts l)[k] = (k, zb l (k + 1)) := by rw [lifts_at, hz2]
      have hpre : (lifts l).take k ++ [(k, zb l (k + 1))] <+: lifts l := by rw [← hway]; exact take_pre _ _ hwl
      have hbd := zb_bd HL.out k (by omega)
      have hkk := HL.out.ok _ (List.getElem_mem hlt)
      have hJ1 := OwnFrom.alloc HJ.out (.cells #[.int .i64 l.ks[k].1, .int .i64 l.ks[k].2.1, .int .i64 l.ks[k].2.2] 63) hJs
      obtain ⟨fn, tmps, assign, body, hy, hR⟩ := HY.out _ _ _ hpre hJ1
      dsimp only [encL] at hy
      rw [hz1] at hy
      have hR1 := yout hR
      clear hR
      have Hs := Lib.hid hsr
      have HP := Lib.hid hpre
      have HW := Lib.hid hway
      have HZ := Lib.hid hz1
      obtain ⟨g1, g2⟩ := hbd
      obtain ⟨_, _, g3, g4, _, _⟩ := hkk
      clear hway hpre hsr hbW h0 hJ1 hz1 hz2
      gi_wp2_with (refine hR1.mono ?_; rintro e W3 ⟨bb, rfl, hO⟩; have HO := Lib.hid hO; clear hO)
      · have hbt : bb = false := by
          have h : (!bb) = true := by assumption
          cases bb
          · rfl
          · cases h
        refine bodyPost_ret (results_none rfl _ _ _) rfl ?_
        refine ⟨⟨_, rfl⟩, .inr ⟨_, HP.out, ?_⟩⟩
        rcases HO.out with h | h
        · rw [hbt] at h; cases h.1
        · exact h.2
      · have hbt : bb = true := by
          have h : (!bb) = false := by assumption
          cases bb
          · cases h
          · rfl
        obtain ⟨_, hJ3, hk3⟩ : bb = true ∧ J ((lifts l).take k ++ [(k, zb l (k + 1))]) W3 ∧ Kpt S _ W3 := by
          rcases HO.out with h | h
          · exact h
          · rw [hbt] at h; cases h.1
        have hs3 := Sl.kpt (Hs.out.alloc (.cells #[.int .i64 l.ks[k].1, .int .i64 l.ks[k].2.1, .int .i64 l.ks[k].2.2] 63)) hk3 hSv
        have hz3 := hk3.size
        simp at hz3
        go_roundw
        case rel => exact ⟨k + 1, by omega, by go_num, by rw [HZ.out], by rw [List.take_succ_eq_append_getElem hwl, HW.out]; exact hJ3, by omega, hs3⟩
        case measure => simp [intOf]; omega
    · obtain rfl : k = l.ks.length := by omega
      gi_wp2
      go_end0
      exact ⟨⟨_, rfl⟩, .inl (by rw [List.take_of_length_le (by rw [lifts_len]; omega)] at hJs; exact hJs)⟩
end Go.Proofs.Ytegkppphaglpgaa
