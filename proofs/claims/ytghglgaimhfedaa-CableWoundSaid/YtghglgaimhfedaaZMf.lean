/-
  Walks of chapter 1: which tensions are accepted as a balance.
-/
import Derived.Test.YtghglgaimhfedaaQL
namespace Go.Proofs.Ytghglgaimhfedaa
open Go.RowKit Go.Shelf
attribute [local go_sem] monoUpon_value monoUpon_skip monoUpon_enter

def checkBalance (l : Ln) (c : List Int) (t : List (Int × Int)) : Int × Int := if currentsErr l c = 0 then balErr l c t else (0, currentsErr l c)
theorem tens_tb (l : Ln) (c : List Int) (_ : c.length = l.ks.length) (k : Nat) (_ : k < l.ks.length) (hk' : k < (tens l c).length) : (tens l c)[k] = tb l c (k + 1) := by
  unfold tb; rw [List.getD_cons_succ, getD_eq _ _ _ hk']
/-- A new box of two cells. -/
def newBox (N : Nat) (v : Value) (w : World) : Prop := ∃ b, v = .pointer (some ⟨b, 0, none⟩) ∧ N ≤ b ∧ (∃ x, At w ⟨b, 0, none⟩ x) ∧ (∃ x, At w ⟨b, 1, none⟩ x)
theorem st_newBox (N : Nat) : Stab (newBox N) := fun _ _ _ ⟨b, h1, h2, ⟨x, h3⟩, ⟨y, h4⟩⟩ hb => ⟨b, h1, h2, ⟨x, h3.below hb⟩, ⟨y, h4.below hb⟩⟩
set_option maxRecDepth 100000 in
set_option maxHeartbeats 1000000 in
theorem CheckBalance_any (v u x : Value) (l : Ln) (cu : List Int) (t : List (Int × Int)) (w : World) (hs : Sl e3 3 w v l.ks) (hu : Sl e1 1 w u cu) (hx : Sl e2 2 w x t) (hbig : l.ks.length ≤ 1000) (hbig' : cu.length ≤ 1000) :
    Calls Try.prog 30 #[.agg #[.int .i64 l.x, .int .i64 l.z, v], u, x] w fun e w' => e = .returned (.tuple #[.int .i64 (checkBalance l cu t).1, .int .i64 (checkBalance l cu t).2]) ∧ Below w.heap.size w w' := by
  have HC := Lib.hid (currentsError_any v u l cu _ (hs.alloc (.cells #[.int .i64 l.x, .int .i64 l.z, v] 26)) (hu.alloc (.cells #[.int .i64 l.x, .int .i64 l.z, v] 26)) hbig hbig')
  obtain ⟨A, c, rfl, hcap⟩ := hs.form
  obtain ⟨A', c', rfl, hcap'⟩ := hu.form
  obtain ⟨A'', c'', rfl, hcap''⟩ := hx.form
  have HS := Lib.hid hs
  have HU := Lib.hid hu
  have HX0 := Lib.hid hx
  clear hs hu hx
  by_cases h1 : currentsErr l cu = 0
  · obtain ⟨h2, h3⟩ := currentsErr_ok h1
    have HL := Lib.hid (lineErr_ok h2)
    have HCU := Lib.hid (cursErr_cu h3)
    rw [h1] at HC
    have E0 : checkBalance l cu t = balErr l cu t := if_pos h1
    have hn1 := HL.out.n1
    by_cases h4 : t.length = l.ks.length
    · have E : Hid (checkBalance l cu t = balF (t.drop 0) ((tens l cu).drop 0) 0) := E0.trans (if_pos h4)
      have h4' := lenb h4
      have hq := neq_force
      clear h1 h2 h3 E0
      go_enter Try.func30, Try.ntmps30
      go_wp2_with (go_at_call 99; refine HC.out.mono ?_; rintro e w1 ⟨rfl, hb1⟩; have bx := fun j v hv => (At.new w #[.int .i64 l.x, .int .i64 l.z, .slice A l.ks.length c] 26 j v hv).below hb1; have A2 := (bx 2 _ rfl).1; have A0 := (bx 0 _ rfl).1; have A1 := (bx 1 _ rfl).1; have q0 := cell_lt A2; simp only at q0; have q00 : w.heap.size < w1.heap.size + 1 := (by omega); have HB1 := Lib.hid (below_tr (below_alloc1 _ _) hb1); clear hb1 bx)
      clear h4'
      go_loopw [10, 11, 12, 30] (fun _ _ _ i wr => ∃ k : Nat, k ≤ l.ks.length ∧ i = .int .i64 k ∧ balF (t.drop k) ((tens l cu).drop k) k = balF (t.drop 0) ((tens l cu).drop 0) 0 ∧ Below w.heap.size w wr ∧
        At wr ⟨w1.heap.size, 0, none⟩ (.int .i64 (tb l cu k).1) ∧ At wr ⟨w1.heap.size, 1, none⟩ (.int .i64 (tb l cu k).2)) (fun _ _ _ i _ => l.ks.length - (intOf i).toNat)
      case atStart =>
        exact ⟨0, Nat.zero_le _, rfl, rfl, below_al HB1.out _, At.new w1 #[.int .i64 l.x, .int .i64 l.z] 23 0 _ rfl, At.new w1 #[.int .i64 l.x, .int .i64 l.z] 23 1 _ rfl⟩
      case round =>
        obtain ⟨k, hk, rfl, hfb, hb, ht1, ht2⟩ := hrel
        have HF := Lib.hid hfb
        have HB := Lib.hid hb
        have HA := Lib.hid (And.intro ht1 ht2)
        clear hfb ht1 ht2 A0 A1 A2
        by_cases hlt : k < l.ks.length
        · have hlt2 : k < (tens l cu).length := by rw [tens_len _ _ HCU.out.len]; exact hlt
          have hlt3 : k < t.length := by omega
          have hlu : k < cu.length := by rw [HCU.out.len]; exact hlt
          have hd := balF_drop t (tens l cu) k hlt3 hlt2
          obtain ⟨hsucc, _⟩ := tb_succ l cu HCU.out.len k hlt
          rw [getD_eq _ _ _ hlu] at hsucc
          rw [tens_tb l cu HCU.out.len k hlt hlt2, hsucc] at hd
          have HD := Lib.hid hd
          have HN := Lib.hid hsucc
          obtain ⟨⟨g1, g2⟩, g3, g4⟩ := tb_bd HL.out HCU.out k (by omega)
          obtain ⟨_, _, g5, g6, g7, g8⟩ := HL.out.ok _ (List.getElem_mem hlt)
          obtain ⟨g9, g10⟩ := HCU.out.ok _ (List.getElem_mem hlu)
          obtain ⟨m1, m2⟩ := mulz l.ks[k].2.2 cu[k] g7 g8 g9 g10
          obtain ⟨b, off, rfl, hbl, hc0, hc1, hc2⟩ := (HS.out.below hb).at3 hlt
          obtain ⟨bu, ou, rfl, hbu, _⟩ := HU.out.raw (k := k) hlu
          obtain ⟨bx, ox, rfl, hbx, _⟩ := HX0.out.raw (k := k) hlt3
          have HXT := Lib.hid (fun W (h : Below w.heap.size w W) => (HX0.out.below h).at2 (k := k) hlt3)
          have HUT := Lib.hid (fun W (h : Below w.heap.size w W) => (HU.out.below h).at1 (k := k) hlu)
          have hkc : (k : Int) < (cu.length : Int) := by omega
          have hkt : (k : Int) < (t.length : Int) := by omega
          clear hd hsucc hb
          generalize tb l cu k = tt at *
          generalize l.ks[k] = kk at *
          generalize cu[k] = n at *
          generalize t[k] = ta at *
          obtain ⟨tx, tz⟩ := tt
          obtain ⟨k1, k2, k3⟩ := kk
          obtain ⟨a1, a2⟩ := ta
          simp only at *
          have hw1 : IntKind.i64.wrap (k3 * n) = k3 * n := IntWalk.i64_in _ (by omega)
          have hw2 : IntKind.i64.wrap (tx + k3 * n) = tx + k3 * n := IntWalk.i64_in _ (by omega)
          have hw3 : IntKind.i64.wrap (tz + k2) = tz + k2 := IntWalk.i64_in _ (by omega)
          go_wp2_with fail
          obtain ⟨W0, hW0⟩ : ∃ W0, W0 = wr.alloc (.cells #[.int .i64 k1, .int .i64 k2, .int .i64 k3] 63) := ⟨_, rfl⟩
          rw [← hW0]
          have hz0 : w1.heap.size < W0.heap.size := by have := HA.out.1.lt; rw [hW0]; simp at *; omega
          have HX : Hid (∀ W, Below W0.drew.heap.size W0.drew W → (At W ⟨w1.heap.size, 0, none⟩ (.int .i64 tx) ∧ At W ⟨w1.heap.size, 1, none⟩ (.int .i64 tz)) ∧ (W.cell? ⟨wr.heap.size, 1, none⟩ = some (.int .i64 k2) ∧ W.cell? ⟨wr.heap.size, 2, none⟩ = some (.int .i64 k3)) ∧
              W.cell? ⟨bu, ou + k, none⟩ = some (.int .i64 n) ∧ Below w.heap.size w W) := by
            intro W h
            rw [hW0] at h
            have hb : Below w.heap.size w W := below_tr (below_al HB.out _) (Below.trans (Below.drew (Below.refl _ _)) h)
            have nx := fun j v hv => (At.new wr #[.int .i64 k1, .int .i64 k2, .int .i64 k3] 63 j v hv).drew.below h
            obtain ⟨b0, o0, e0, _, cb⟩ := HUT.out W hb
            injection e0 with e0
            injection e0 with e01 e02
            subst e01; subst e02
            exact ⟨⟨(HA.out.1.al _).drew.below h, (HA.out.2.al _).drew.below h⟩, ⟨(nx 1 _ rfl).1, (nx 2 _ rfl).1⟩, cb, hb⟩
          clear hW0
          refine wp_region_mono 17 [35, 36, 37, 38, 39, 40, 41, 42, 43, 44, 45, 46, 47, 48, 49, 50, 12] [[], [0], [], [2], [], [], [4, 5], [6], [3, 7], [1, 8], [], [10], [], [12], [11, 13], [9, 14], []] [fun v _ => v = .pointer (some ⟨w1.heap.size, 0, none⟩), fun v _ => v = .int .i64 tx, fun v _ => v = .pointer (some ⟨wr.heap.size, 2, none⟩), fun v _ => v = .int .i64 k3, fun v _ => v = .slice (some ⟨bu, ou, none⟩) cu.length c', fun v _ => v = .int .i64 k, fun v _ => v = .pointer (some ⟨bu, ou + k, none⟩), fun v _ => v = .int .i64 n, fun v _ => v = .int .i64 (k3 * n), fun v _ => v = .int .i64 (tx + k3 * n), fun v _ => v = .pointer (some ⟨w1.heap.size, 1, none⟩), fun v _ => v = .int .i64 tz, fun v _ => v = .pointer (some ⟨wr.heap.size, 1, none⟩), fun v _ => v = .int .i64 k2, fun v _ => v = .int .i64 (tz + k2), fun v _ => v = .agg #[.int .i64 (tx + k3 * n), .int .i64 (tz + k2)], fun v w => newBox W0.heap.size v w] (by kernel_rfl) (by kernel_rfl) ⟨st_eq _, st_eq _, st_eq _, st_eq _, st_eq _, st_eq _, st_eq _, st_eq _, st_eq _, st_eq _, st_eq _, st_eq _, st_eq _, st_eq _, st_eq _, st_eq _, st_newBox _, trivial⟩ ?_ ?_
          · simp only [List.take_succ_cons, List.take_zero, steps, and_true]
            refine ⟨?_, ?_, ?_, ?_, ?_, ?_, ?_, ?_, ?_, ?_, ?_, ?_, ?_, ?_, ?_, ?_, ?_⟩
            · intro x W hB _; simp only [putX, setX, List.foldl_cons, List.foldl_nil]; refine ⟨?_⟩; go_simp; exact ⟨rfl, Below.refl _ _⟩
            · intro x W hB hN; simp only [needs, sAt, dAt] at hN; simp only [putX, setX, List.foldl_cons, List.foldl_nil]; obtain ⟨⟨⟨c0, _⟩, c1, _⟩, _⟩ := HX.out W hB; refine ⟨?_⟩; go_simp; exact ⟨rfl, Below.refl _ _⟩
            · intro x W hB _; simp only [putX, setX, List.foldl_cons, List.foldl_nil]; refine ⟨?_⟩; go_simp; exact ⟨rfl, Below.refl _ _⟩
            · intro x W hB hN; simp only [needs, sAt, dAt] at hN; simp only [putX, setX, List.foldl_cons, List.foldl_nil]; obtain ⟨_, ⟨c0, c1⟩, _⟩ := HX.out W hB; refine ⟨?_⟩; go_simp; exact ⟨rfl, Below.refl _ _⟩
            · intro x W hB _; simp only [putX, setX, List.foldl_cons, List.foldl_nil]; refine ⟨?_⟩; go_simp; exact ⟨rfl, Below.refl _ _⟩
            · intro x W hB _; simp only [putX, setX, List.foldl_cons, List.foldl_nil]; refine ⟨?_⟩; go_simp; exact ⟨rfl, Below.refl _ _⟩
            · intro x W hB hN; simp only [needs, sAt, dAt] at hN; simp only [putX, setX, List.foldl_cons, List.foldl_nil]; refine ⟨?_⟩; go_simp; exact ⟨rfl, Below.refl _ _⟩
            · intro x W hB hN; simp only [needs, sAt, dAt] at hN; simp only [putX, setX, List.foldl_cons, List.foldl_nil]; obtain ⟨_, _, c0, _⟩ := HX.out W hB; refine ⟨?_⟩; go_simp; exact ⟨rfl, Below.refl _ _⟩
            · intro x W hB hN; simp only [needs, sAt, dAt] at hN; simp only [putX, setX, List.foldl_cons, List.foldl_nil]; refine ⟨?_⟩; go_simp; exact ⟨rfl, Below.refl _ _⟩
            · intro x W hB hN; simp only [needs, sAt, dAt] at hN; simp only [putX, setX, List.foldl_cons, List.foldl_nil]; refine ⟨?_⟩; go_simp; exact ⟨rfl, Below.refl _ _⟩
            · intro x W hB _; simp only [putX, setX, List.foldl_cons, List.foldl_nil]; refine ⟨?_⟩; go_simp; exact ⟨rfl, Below.refl _ _⟩
            · intro x W hB hN; simp only [needs, sAt, dAt] at hN; simp only [putX, setX, List.foldl_cons, List.foldl_nil]; obtain ⟨⟨⟨c0, _⟩, c1, _⟩, _⟩ := HX.out W hB; refine ⟨?_⟩; go_simp; exact ⟨rfl, Below.refl _ _⟩
            · intro x W hB _; simp only [putX, setX, List.foldl_cons, List.foldl_nil]; refine ⟨?_⟩; go_simp; exact ⟨rfl, Below.refl _ _⟩
            · intro x W hB hN; simp only [needs, sAt, dAt] at hN; simp only [putX, setX, List.foldl_cons, List.foldl_nil]; obtain ⟨_, ⟨c0, c1⟩, _⟩ := HX.out W hB; refine ⟨?_⟩; go_simp; exact ⟨rfl, Below.refl _ _⟩
            · intro x W hB hN; simp only [needs, sAt, dAt] at hN; simp only [putX, setX, List.foldl_cons, List.foldl_nil]; refine ⟨?_⟩; go_simp; exact ⟨rfl, Below.refl _ _⟩
            · intro x W hB hN; simp only [needs, sAt, dAt] at hN; simp only [putX, setX, List.foldl_cons, List.foldl_nil]; refine ⟨?_⟩; go_simp; exact ⟨rfl, Below.refl _ _⟩
            · intro x W hB _; simp only [putX, setX, List.foldl_cons, List.foldl_nil]; refine ⟨?_⟩; go_simp; exact ⟨⟨_, rfl, hB.size, ⟨_, At.new W #[.int .i64 0, .int .i64 0] 23 0 _ rfl⟩, _, At.new W #[.int .i64 0, .int .i64 0] 23 1 _ rfl⟩, below_alloc1 _ _⟩
          · intro y W hB hA
            simp only [allSp] at hA
            have q1 := hA.2.2.2.2.2.2.2.2.2.2.2.2.2.2.2.1
            obtain ⟨nb, q2, hnb, ⟨n0, d0, f0⟩, n1, d1, f1⟩ := hA.2.2.2.2.2.2.2.2.2.2.2.2.2.2.2.2.1
            have HXW := Lib.hid (HX.out W hB)
            clear hA hB
            simp only [putX, setX, List.foldl_cons, List.foldl_nil, List.drop_succ_cons, List.drop_zero, q1, q2, List.setIfInBounds_toArray, List.set_cons_succ, List.set_cons_zero]
            clear q1 q2
            go_wp2_with fail
            obtain ⟨W5, hW5⟩ : ∃ W5, W5 = ((W.setCell ⟨nb, 0, none⟩ (.int .i64 (tx + k3 * n))).setCell ⟨nb, 1, none⟩ (.int .i64 (tz + k2))) := ⟨_, rfl⟩
            rw [← hW5]
            have hnw : w.heap.size ≤ nb := by have := HB1.out.size; omega
            have HB5 : Hid (Below w.heap.size w W5) := by rw [hW5]; exact below_set (below_set HXW.out.2.2.2 hnw _) hnw _
            obtain ⟨s0, _⟩ : At W5 ⟨nb, 0, none⟩ (.int .i64 (tx + k3 * n)) := by rw [hW5]; exact (At.set ⟨d0, f0⟩).other (by simp)
            obtain ⟨s1, _⟩ : At W5 ⟨nb, 1, none⟩ (.int .i64 (tz + k2)) := by rw [hW5]; exact At.set ((At.other ⟨d1, f1⟩ (by simp)))
            obtain ⟨t0, t0f⟩ : At W5 ⟨w1.heap.size, 0, none⟩ (.int .i64 tx) := by rw [hW5]; exact (HXW.out.1.1.other (by simp <;> omega)).other (by simp)
            obtain ⟨t1, t1f⟩ : At W5 ⟨w1.heap.size, 1, none⟩ (.int .i64 tz) := by rw [hW5]; exact (HXW.out.1.2.other (by simp)).other (by simp <;> omega)
            obtain ⟨b0, o0, e0, _, x0, x1⟩ := HXT.out W5 HB5.out
            injection e0 with e0
            injection e0 with e01 e02
            subst e01; subst e02
            clear hW5 d0 f0 d1 f1
            by_cases he : ((a1, a2) : Int × Int) = (tx + k3 * n, tz + k2)
            · have hp := pne0 he
              simp only at hp
              go_quiet (fail)
              go_wp2_with fail
              go_roundw
              case rel =>
                refine ⟨k + 1, by omega, by go_num, by rw [← HF.out, HD.out, if_pos he], ?_, ?_, ?_⟩
                · exact below_set (below_set (below_drN HB5.out _) (Nat.le_of_lt q0) _) (Nat.le_of_lt q0) _
                · rw [HN.out]; exact (At.set (u := .int .i64 (tx + k3 * n)) (show At (W5.drewN _) _ _ from ⟨t0, t0f⟩)).other (by simp)
                · rw [HN.out]; exact At.set (At.other (show At (W5.drewN _) _ _ from ⟨t1, t1f⟩) (by simp))
              case measure => simp [intOf]; omega
            · have hp := pne1 he
              simp only at hp
              go_quiet (fail)
              go_wp2_with fail
              go_ret2
              exact ⟨ret_pairI (by rw [E.out, ← HF.out, HD.out, if_neg he]), below_drN HB5.out _⟩
        · clear hb
          obtain rfl : k = l.ks.length := by omega
          have hfin : balF (t.drop l.ks.length) ((tens l cu).drop l.ks.length) l.ks.length = (0, 0) := by rw [List.drop_of_length_le (by omega)]; rfl
          have HFF := Lib.hid hfin
          clear hfin
          go_wp2_with fail
          go_ret2
          exact ⟨ret_pairI (by rw [E.out, ← HF.out, HFF.out]), HB.out⟩
    · have E : Hid (checkBalance l cu t = (0, 10)) := E0.trans (if_neg h4)
      have h4' := lenb' h4
      clear h4 h1 E0
      go_enter Try.func30, Try.ntmps30
      go_wp2_with (go_at_call 99; refine HC.out.mono ?_; rintro e w1 ⟨rfl, hb1⟩; have bx := fun j v hv => (At.new w #[.int .i64 l.x, .int .i64 l.z, .slice A l.ks.length c] 26 j v hv).below hb1; have A2 := (bx 2 _ rfl).1; have HB1 := Lib.hid (below_tr (below_alloc1 _ _) hb1); clear hb1 bx)
      go_ret2
      exact ⟨ret_pairI E.out, HB1.out⟩
  · have E : Hid (checkBalance l cu t = (0, currentsErr l cu)) := if_neg h1
    have h1' := ne1 h1
    generalize currentsErr l cu = pe at *
    clear h1
    go_enter Try.func30, Try.ntmps30
    go_wp2_with (go_at_call 99; refine HC.out.mono ?_; rintro e w1 ⟨rfl, hb1⟩)
    go_ret2
    exact ⟨ret_pairI E.out, below_tr (below_alloc1 _ _) hb1⟩
end Go.Proofs.Ytghglgaimhfedaa
