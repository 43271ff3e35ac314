/-
  Walks of chapter 1's turns: the iterator over the ways of a path, and what ranges over it.
-/
import Derived.Test.YtegkppphaglpgaaWu
import Derived.Test.YtegkppphaglpgaaKr
namespace Go.Proofs.Ytegkppphaglpgaa
open Go.RowKit Go.Shelf
attribute [local go_sem] Oper.semAt_some

def encW (x : Pt × Pt) : Array Value := #[.agg #[.int .i64 x.1.1, .int .i64 x.1.2], .agg #[.int .i64 x.2.1, .int .i64 x.2.2]]
theorem ways_any (A : Option Addr) (n c : Nat) (w : World) :
    Calls Try.prog 156 #[.slice A n c] w fun e w' => e = .returned (.func (.func 159) #[] #[.pointer (some ⟨w.heap.size, 0, none⟩)]) ∧ w.alloc (.cells #[.slice A n c] 112) = w' := by
  go_enter Try.func156, Try.ntmps156
  go_wp2
  go_ret
  exact ⟨rfl, rfl⟩

theorem take_pre {α : Type} (xs : List α) (k : Nat) (h : k < xs.length) : xs.take k ++ [xs[k]] <+: xs := by
  have e : xs.take (k + 1) = xs.take k ++ [xs[k]] := List.take_succ_eq_append_getElem h
  rw [← e]
  exact List.take_prefix _ _

set_option maxHeartbeats 2000000 in
theorem ways_seq (Bx : Nat) (v : Value) (path : List Pt) (w : World) (hlen : path.length ≤ 30) (hBx : Bx < w.heap.size) (hb : w.cell? ⟨Bx, 0, none⟩ = some v) (hs : Sl e2 2 w v path)
    (S : Nat → Prop) (hS : S Bx) (hSv : ∀ b, v.ownBlock = some b → S b) :
    SeqX Try.prog 159 #[.pointer (some ⟨Bx, 0, none⟩)] encW S (ways path) w := by
  intro l J Jx W hW hJ hJx hY h0
  have hBxW : Bx < W.heap.size := Nat.lt_of_lt_of_le hBx hW.size
  have hbW : W.cell? ⟨Bx, 0, none⟩ = some v := (hW.cell (p := ⟨Bx, 0, none⟩) hBx).trans hb
  have hsW : Sl e2 2 W v path := hs.below hW
  clear hb hs hW hBx
  obtain ⟨A, c, rfl, hcap⟩ := hsW.form
  have HY := Lib.hid hY
  have HJ := Lib.hid hJ
  have HJx := Lib.hid hJx
  clear hY hJ hJx
  refine callsIn_of_wp Try.func159 rfl trivial ?_ rfl
  simp only [Try.ntmps159, List.size_toArray, List.length_cons, List.length_nil, Nat.reduceAdd, Nat.reduceSub, Array.replicate_succ, Array.replicate_zero, List.push_toArray, List.append_toArray, List.nil_append, List.cons_append]
  gi_wp2
  gi_loopw [3, 4, 7] (fun _ _ i wr => ∃ k : Nat, k ≤ path.length ∧ i = .int .i64 k ∧ J ((ways path).take k) wr ∧ Bx < wr.heap.size ∧ wr.cell? ⟨Bx, 0, none⟩ = some (.slice A path.length c) ∧ Sl e2 2 wr (.slice A path.length c) path)
    (fun _ _ i _ => path.length - (intOf i).toNat)
  case atStart => exact ⟨0, Nat.zero_le _, rfl, h0, hBxW, hbW, hsW⟩
  case round =>
    obtain ⟨k, hk, rfl, hJs, hBr, hbr, hsr⟩ := hrel
    by_cases hlt : k < path.length
    · obtain ⟨b, off, rfl, hbl, hc0, hc1⟩ := hsr.at2 hlt
      obtain ⟨j, hj⟩ : ∃ j, j = (k + 1) % path.length := ⟨_, rfl⟩
      have hjl : j < path.length := by rw [hj]; exact Nat.mod_lt _ (by omega)
      obtain ⟨b', off', e', _, hd0, hd1⟩ := hsr.at2 hjl
      injection e' with e'
      injection e' with e1 e2'
      subst e1; subst e2'
      have hwl : k < (ways path).length := by rw [ways_len]; exact hlt
      have hway : (ways path)[k] = (path[k], path[j]) := by rw [ways_at _ _ hlt]; unfold wayAt; rw [← hj, getD_eq _ _ _ hlt, getD_eq _ _ _ hjl]
      have hpre : (ways path).take k ++ [(path[k], path[j])] <+: ways path := by rw [← hway]; exact take_pre _ _ hwl
      have hJ1 := own_drew HJ.out (OwnFrom.alloc HJ.out (.cells #[.int .i64 path[k].1, .int .i64 path[k].2] 61) hJs)
      obtain ⟨fn, tmps, assign, body, hy, hR⟩ := HY.out _ _ _ hpre hJ1
      dsimp only [encW] at hy
      have hR1 := yout hR
      clear hR
      have hL : ((path.length : Int) == 0) = false := by rw [beq_eq_false_iff_ne]; omega
      have hne : path ≠ [] := by rintro rfl; simp at hlt
      have h8 : IntKind.i64.wrap ((k : Int) + 1) = (k : Int) + 1 := IntWalk.i64_in _ (by omega)
      have h9 : ((k : Int) + 1).tmod (path.length : Int) = (j : Int) := by rw [Int.tmod_eq_emod_of_nonneg (by omega), hj]; rfl
      have hjl' : (j : Int) < (path.length : Int) := by omega
      have h5 : ((k : Int) + 1) % (path.length : Int) = (j : Int) := by rw [hj]; rfl
      have h7 : (0 : Int) ≤ (k : Int) + 1 := by omega
      have Hj := Lib.hid hj
      have HP := Lib.hid hpre
      have HW := Lib.hid hway
      have Hs := Lib.hid hsr
      clear hj hway hpre hsr hbW hsW h0 hJ1
      have hmix : Try.prog.follows .mixedOrders = true := by kernel_rfl
      gi_wp2
      gi_region_with_o (refine ⟨rfl, hR1.mono ?_⟩; rintro e W3 ⟨bb, rfl, hO⟩)
      all_goals clear hy hR1
      all_goals
        rcases hO with ⟨rfl, hJ3, hk3⟩ | ⟨rfl, hJx3⟩
        · have hs3 := Sl.kpt (((Hs.out.alloc (.cells #[.int .i64 path[k].1, .int .i64 path[k].2] 61))).drew) hk3 hSv
          have hz3 := hk3.size
          simp at hz3
          have hbr3 : W3.cell? ⟨Bx, 0, none⟩ = some (.slice (some ⟨b, off, none⟩) path.length c) := by
            rw [hk3.cell (p := ⟨Bx, 0, none⟩) hS (by simp; omega)]
            exact (World.cell?_alloc_lt wr _ ⟨Bx, 0, none⟩ hBr).trans hbr
          have Hs3 := Lib.hid hs3
          have Hk3 := Lib.hid hk3
          clear hs3 hk3
          gi_wp2
          go_roundw
          case rel => exact ⟨k + 1, by omega, by go_num, by rw [List.take_succ_eq_append_getElem hwl, HW.out]; exact hJ3, by omega, hbr3, Hs3.out⟩
          case measure => simp [intOf]; omega
        · gi_wp2
          refine bodyPost_ret (results_none rfl _ _ _) rfl ?_
          exact ⟨⟨_, rfl⟩, .inr ⟨_, HP.out, hJx3⟩⟩
    · obtain rfl : k = path.length := by omega
      gi_wp2
      go_end0
      exact ⟨⟨_, rfl⟩, .inl (by rw [List.take_of_length_le (by rw [ways_len]; omega)] at hJs; exact hJs)⟩
end Go.Proofs.Ytegkppphaglpgaa
