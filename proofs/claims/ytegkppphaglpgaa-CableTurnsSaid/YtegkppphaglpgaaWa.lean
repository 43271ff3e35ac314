/-
  Walks of chapter 1's turns: the reference's posts and windings.
-/
import Derived.Test.YtegkppphaglpgaaWz
namespace Go.Proofs.Ytegkppphaglpgaa
open Go.RowKit Go.Shelf

/-- What a round at the way k reads. -/
theorem Sl.way {w : World} {A : Option Addr} {n c : Nat} {path : List Pt} (h : Sl e2 2 w (.slice A n c) path) {k : Nat} (hk : k < path.length) (hbig : path.length ≤ 1000) :
    ∃ (b off j : Nat) (a1 a2 b1 b2 : Int), A = some ⟨b, off, none⟩ ∧ b < w.heap.size ∧ j < path.length ∧ (ways path).take (k + 1) = (ways path).take k ++ [((a1, a2), (b1, b2))] ∧ ((a1, a2), (b1, b2)) ∈ ways path ∧
      w.cell? ⟨b, off + k * 2, none⟩ = some (.int .i64 a1) ∧ w.cell? ⟨b, off + k * 2 + 1, none⟩ = some (.int .i64 a2) ∧ w.cell? ⟨b, off + j * 2, none⟩ = some (.int .i64 b1) ∧ w.cell? ⟨b, off + j * 2 + 1, none⟩ = some (.int .i64 b2) ∧
      ((path.length : Int) == 0) = false ∧ path ≠ [] ∧ IntKind.i64.wrap ((k : Int) + 1) = (k : Int) + 1 ∧ ((k : Int) + 1).tmod (path.length : Int) = (j : Int) ∧ ((k : Int) + 1) % (path.length : Int) = (j : Int) := by
  obtain ⟨b, off, rfl, hbl, hc0, hc1⟩ := h.at2 hk
  have hjl : (k + 1) % path.length < path.length := Nat.mod_lt _ (by omega)
  obtain ⟨b', off', e', _, hd0, hd1⟩ := h.at2 hjl
  injection e' with e'
  injection e' with e1 e2'
  subst e1; subst e2'
  have hwl : k < (ways path).length := by rw [ways_len]; exact hk
  have hway : (ways path)[k] = (path[k], path[(k + 1) % path.length]) := by rw [ways_at _ _ hk]; unfold wayAt; rw [getD_eq _ _ _ hk, getD_eq _ _ _ hjl]
  have hm : (path[k], path[(k + 1) % path.length]) ∈ ways path := by rw [← hway]; exact List.getElem_mem _
  refine ⟨b, off, (k + 1) % path.length, path[k].1, path[k].2, path[(k + 1) % path.length].1, path[(k + 1) % path.length].2, rfl, hbl, hjl, ?_, hm, hc0, hc1, hd0, hd1, ?_, ?_, IntWalk.i64_in _ (by omega), ?_, rfl⟩
  · rw [List.take_succ_eq_append_getElem hwl, hway]
  · rw [beq_eq_false_iff_ne]; omega
  · rintro rfl; simp at hk
  · rw [Int.tmod_eq_emod_of_nonneg (by omega)]; rfl

set_option maxRecDepth 100000 in
set_option maxHeartbeats 1000000 in
theorem PostErr_any (v : Value) (path : List Pt) (p : Pt) (w : World) (hs : Sl e2 2 w v path) (h30 : path.length ≤ 30) (hsm : ∀ x ∈ ways path, Sm x.1 ∧ Sm x.2) :
    Calls Try.prog 77 #[v, .agg #[.int .i64 p.1, .int .i64 p.2]] w fun e w' => e = .returned (.int .i64 (postErr path p)) ∧ Below w.heap.size w w' := by
  obtain ⟨A, c, rfl, hcap⟩ := hs.form
  have HP := Lib.hid (isPlace_any p)
  cases hok : placeOk p
  · have E : Hid (postErr path p = 2) := postErr_bad hok
    rw [hok] at HP
    clear hok hs
    go_enter Try.func77, Try.ntmps77
    go_wp2_with (go_at_call 132; refine (HP.out _).mono ?_; rintro e w1 ⟨rfl, hb1⟩)
    go_ret
    exact ⟨ret_int E.out.symm, below_tr (below_alloc1 _ _) hb1⟩
  · rw [hok] at HP
    have HO := Lib.hid hok
    have hp := Sm.of hok
    have HS := Lib.hid hs
    have HM := Lib.hid hsm
    clear hs hok hsm
    go_enter Try.func77, Try.ntmps77
    go_wp2_with (go_at_call 132; refine (HP.out _).mono ?_; rintro e w1 ⟨rfl, hb1⟩)
    go_loopw [5] (fun i wr => ∃ k : Nat, k ≤ path.length ∧ i = .int .i64 k ∧ NoneOn p ((ways path).take k) ∧ Below w.heap.size w wr ∧ At wr ⟨w.heap.size, 0, none⟩ (.int .i64 p.1) ∧ At wr ⟨w.heap.size, 1, none⟩ (.int .i64 p.2)) (fun i _ => path.length - (intOf i).toNat)
    case atStart =>
      exact ⟨0, Nat.zero_le _, rfl, fun x hx => by simp at hx, below_tr (below_alloc1 _ _) hb1, (At.new w #[.int .i64 p.1, .int .i64 p.2] 61 0 _ rfl).below hb1, (At.new w #[.int .i64 p.1, .int .i64 p.2] 61 1 _ rfl).below hb1⟩
    case round =>
      obtain ⟨k, hk, rfl, hno, hb, hq1, hq2⟩ := hrel
      have HN := Lib.hid hno
      have HB := Lib.hid hb
      have HQ := Lib.hid (And.intro hq1 hq2)
      have g1 := hq1.1
      have g2 := hq2.1
      clear hno hq1 hq2
      by_cases hlt : k < path.length
      · obtain ⟨b, off, j, a1, a2, b1, b2, rfl, hbl, hjl, htk, hmem, hc0, hc1, hd0, hd1, hL, hne, h8, h9, h5⟩ := (HS.out.below hb).way hlt (by omega)
        have hjl' : (j : Int) < (path.length : Int) := by omega
        have hon := fun w => on_any (a1, a2) (b1, b2) p w (HM.out _ hmem).1 (HM.out _ hmem).2 hp
        have HT := Lib.hid htk
        have HON := Lib.hid hon
        have HME := Lib.hid hmem
        clear htk hmem hon hb
        cases hc : onWay (a1, a2) (b1, b2) p
        · rw [hc] at HON
          have HC := Lib.hid hc
          clear hc
          go_wp2_with fail
          go_still_tail 13, (by kernel_rfl)
          go_wp2_with (go_at_call 133; refine (HON.out _).mono ?_; rintro e w2 ⟨rfl, hb2⟩)
          go_roundw
          case rel => exact ⟨k + 1, by omega, by go_num, by rw [HT.out]; exact HN.out.snoc HC.out, below_tr HB.out.drew hb2, HQ.out.1.drew.below hb2, HQ.out.2.drew.below hb2⟩
          case measure => simp [intOf]; omega
        · rw [hc] at HON
          have E : Hid (postErr path p = 13) := postErr_on HO.out _ HME.out hc
          clear hc
          go_wp2_with fail
          go_still_tail 13, (by kernel_rfl)
          go_wp2_with (go_at_call 133; refine (HON.out _).mono ?_; rintro e w2 ⟨rfl, hb2⟩)
          go_ret
          exact ⟨ret_int E.out.symm, below_tr HB.out.drew hb2⟩
      · clear hb
        obtain rfl : k = path.length := by omega
        have E : Hid (postErr path p = 0) := postErr_ok HO.out (by have := HN.out; rw [List.take_of_length_le (by rw [ways_len]; omega)] at this; exact this)
        go_wp2_with fail
        go_ret
        exact ⟨ret_int E.out.symm, HB.out⟩
end Go.Proofs.Ytegkppphaglpgaa
