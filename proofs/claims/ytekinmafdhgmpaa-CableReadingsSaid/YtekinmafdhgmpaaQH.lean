/-
  Walks of chapter 1's turns: the two exported calls; copies of paths; comparisons of lists.
-/
import Derived.Test.YtekinmafdhgmpaaQD
namespace Go.Proofs.Ytekinmafdhgmpaa
open Go.RowKit Go.Shelf

theorem ptinfo : (Try.prog.info? 67).map (fun i => (i.zero, i.size, i.bytes)) = some (some (.agg #[.int .i64 0, .int .i64 0]), 2, 16) := by kernel_rfl

def windingOf (path : List Pt) (p : Pt) : Int × Int := if pathErr path = 0 then (if postErr path p = 0 then (winding path p, 0) else (0, postErr path p)) else (0, pathErr path)
theorem post_place {path : List Pt} {p : Pt} (h : postErr path p = 0) : placeOk p = true := by
  cases hc : placeOk p
  · rw [postErr_bad hc] at h; omega
  · rfl
theorem ret_pair {q : Int × Int} {a b : Int} (h : q = (a, b)) : Ending.returned (.tuple #[.int .i64 a, .int .i64 b]) = .returned (.tuple #[.int .i64 q.1, .int .i64 q.2]) := by rw [h]
set_option maxHeartbeats 400000 in
theorem WindingOf_any (v : Value) (path : List Pt) (p : Pt) (w : World) (hs : Sl e2 2 w v path) (hbig : path.length ≤ 1000) :
    Calls Try.prog 28 #[v, .agg #[.int .i64 p.1, .int .i64 p.2]] w fun e w' => e = .returned (.tuple #[.int .i64 (windingOf path p).1, .int .i64 (windingOf path p).2]) ∧ Below w.heap.size w w' := by
  have HS := Lib.hid hs
  obtain ⟨A, c, rfl, hcap⟩ := hs.form
  clear hs
  have HP := Lib.hid (pathError_any _ path _ (HS.out.alloc (.cells #[.int .i64 p.1, .int .i64 p.2] 67)) hbig)
  by_cases h1 : pathErr path = 0
  · obtain ⟨hp1, hp2, hp3⟩ := pathErr_ok h1
    have hsm := ways_sm hp3
    have HQ := Lib.hid (fun w1 hb => postError_any _ path p w1 ((HS.out.alloc (.cells #[.int .i64 p.1, .int .i64 p.2] 67)).below (w' := w1) hb) hp1 hp2 hsm)
    rw [h1] at HP
    by_cases h2 : postErr path p = 0
    · have HW := Lib.hid (fun w1 hs => winding_any (.slice A path.length c) path p w1 hs hp1 hp2 hsm (Sm.of (post_place h2)))
      have E : Hid (windingOf path p = (winding path p, 0)) := by unfold Hid windingOf; rw [if_pos h1, if_pos h2]
      rw [h2] at HQ
      generalize winding path p = wn at *
      clear h1 h2 hsm hp3
      go_enter Try.func28, Try.ntmps28
      go_wp2_with (first
        | (go_at_call 65; refine HP.out.mono ?_; rintro e w1 ⟨rfl, hb1⟩; obtain ⟨q1, _⟩ := ((At.new w #[.int .i64 p.1, .int .i64 p.2] 67 0 _ rfl).below hb1); obtain ⟨q2, _⟩ := ((At.new w #[.int .i64 p.1, .int .i64 p.2] 67 1 _ rfl).below hb1); have HB1 := Lib.hid hb1; clear hb1)
        | (go_at_call 66; refine (HQ.out _ HB1.out).mono ?_; rintro e w2 ⟨rfl, hb2⟩; have q3 := (hb2.cell (p := ⟨w.heap.size, 0, none⟩) (cell_lt q1)).trans q1; have q4 := (hb2.cell (p := ⟨w.heap.size, 1, none⟩) (cell_lt q2)).trans q2; have HB2 := Lib.hid (below_tr (below_tr (below_alloc1 _ _) HB1.out) hb2); clear hb2)
        | (go_at_call 67; refine (HW.out _ (HS.out.below HB2.out)).mono ?_; rintro e w3 ⟨rfl, hb3⟩))
      go_ret2
      exact ⟨ret_pair E.out, below_tr HB2.out hb3⟩
    · have E : Hid (windingOf path p = (0, postErr path p)) := by unfold Hid windingOf; rw [if_pos h1, if_neg h2]
      have h2' := ne1 h2
      generalize postErr path p = pe at *
      clear h1 h2 hsm hp3
      go_enter Try.func28, Try.ntmps28
      go_wp2_with (first
        | (go_at_call 65; refine HP.out.mono ?_; rintro e w1 ⟨rfl, hb1⟩; obtain ⟨q1, _⟩ := ((At.new w #[.int .i64 p.1, .int .i64 p.2] 67 0 _ rfl).below hb1); obtain ⟨q2, _⟩ := ((At.new w #[.int .i64 p.1, .int .i64 p.2] 67 1 _ rfl).below hb1); have HB1 := Lib.hid hb1; clear hb1)
        | (go_at_call 66; refine (HQ.out _ HB1.out).mono ?_; rintro e w2 ⟨rfl, hb2⟩))
      go_ret2
      exact ⟨ret_pair E.out, below_tr (below_tr (below_alloc1 _ _) HB1.out) hb2⟩
  · have E : Hid (windingOf path p = (0, pathErr path)) := by unfold Hid windingOf; rw [if_neg h1]
    have h2' := ne1 h1
    generalize pathErr path = pe at *
    clear h1
    go_enter Try.func28, Try.ntmps28
    go_wp2_with (go_at_call 65; refine HP.out.mono ?_; rintro e w1 ⟨rfl, hb1⟩)
    go_ret2
    exact ⟨ret_pair E.out, below_tr (below_alloc1 _ _) hb1⟩

set_option maxHeartbeats 400000 in
theorem CopyPath_any (v : Value) (path : List Pt) (w : World) (hs : Sl e2 2 w v path) (hbig : path.length ≤ 1000) :
    Calls Try.prog 29 #[v] w fun e w' => ∃ r, e = .returned r ∧ Ow e2 2 67 w.heap.size w' r path ∧ Below w.heap.size w w' := by
  have HS := Lib.hid hs
  obtain ⟨A, c, rfl, hcap⟩ := hs.form
  obtain ⟨i0, hi, hz0, hz1, hz2⟩ := info_parts ptinfo
  have ho : Ow e2 2 67 w.heap.size (w.alloc (.cells #[] 67)) (.slice (some ⟨w.heap.size, 0, none⟩) 0 0) [] := Ow.lit w #[] [] (Nat.le_refl _) (by simp) rfl rfl
  have HO := Lib.hid ho
  clear hs ho
  go_enter Try.func29, Try.ntmps29
  go_wp2_with (at_builtin; refine wpList_append_sl _ rfl _ _ 66 rfl w.heap.size 67 i0 _ 2 16 Try.underlying66 hi hz0 hz1 hz2 rfl (by decide) e2_len e2_one _ [] rfl HO.out _ _ _ path rfl (HS.out.alloc _) (by simp; omega) (by decide) (by simp) ?_; intro v1 w2 hown1 hg1; have HO2 := Lib.hid hown1; have HG := Lib.hid hg1; clear hown1 hg1)
  go_ret
  exact ⟨_, rfl, by simpa using HO2.out, HO.out.grown HG.out (below_alloc1 _ _) (Nat.le_refl _)⟩
end Go.Proofs.Ytekinmafdhgmpaa

namespace Go.Proofs.Ytekinmafdhgmpaa
open Go.RowKit Go.Shelf

def eqL {α : Type} [DecidableEq α] (xs ys : List α) : Bool := decide (xs = ys)
theorem eqL_refl {α : Type} [DecidableEq α] (xs : List α) : eqL xs xs = true := by simp [eqL]
theorem eqL_len {α : Type} [DecidableEq α] {xs ys : List α} (h : xs.length ≠ ys.length) : eqL xs ys = false := by
  unfold eqL; rw [decide_eq_false_iff_not]; rintro rfl; exact h rfl
theorem eqL_at {α : Type} [DecidableEq α] {xs ys : List α} (k : Nat) (h1 : k < xs.length) (h2 : k < ys.length) (h : xs[k] ≠ ys[k]) : eqL xs ys = false := by
  unfold eqL; rw [decide_eq_false_iff_not]; rintro rfl; exact h rfl
theorem take_eq {α : Type} {xs ys : List α} (k : Nat) (h1 : k < xs.length) (h2 : k < ys.length) (ht : xs.take k = ys.take k) (h : xs[k] = ys[k]) : xs.take (k + 1) = ys.take (k + 1) := by
  rw [List.take_succ_eq_append_getElem h1, List.take_succ_eq_append_getElem h2, ht, h]
theorem eqL_all {α : Type} [DecidableEq α] {xs ys : List α} (hl : xs.length = ys.length) (ht : xs.take xs.length = ys.take xs.length) : eqL xs ys = true := by
  rw [List.take_length, hl, List.take_length] at ht; subst ht; exact eqL_refl _

theorem below_drN {w w1 : World} (h : Below w.heap.size w w1) (n : Nat) : Below w.heap.size w (w1.drewN n) := ⟨h.os, h.tape, h.output, h.size, h.block⟩
set_option maxHeartbeats 400000 in
theorem Ints_any (u v : Value) (xs ys : List (Int)) (w : World) (hs : Sl e1 1 w u xs) (ht : Sl e1 1 w v ys) (hbig : xs.length ≤ 1000) (_ : ys.length ≤ 1000) :
    Calls Try.prog 21 #[u, v] w fun e w' => e = .returned (.bool (eqL xs ys)) ∧ Below w.heap.size w w' := by
  obtain ⟨A, c, rfl, hcap⟩ := hs.form
  obtain ⟨A', c', rfl, hcap'⟩ := ht.form
  have HS := Lib.hid hs
  have HT := Lib.hid ht
  clear hs ht
  by_cases hl : xs.length = ys.length
  · have hl1 : ((xs.length : Int) != (ys.length : Int)) = false := by rw [bne_eq_false_iff_eq]; omega
    have HL := Lib.hid hl
    have hl2 : xs.length ≤ ys.length := by omega
    have hl3 : ys.length ≤ xs.length := by omega
    clear hl
    go_enter Try.func21, Try.ntmps21
    go_wp2_with fail
    go_loopw [5] (fun i wr => ∃ k : Nat, k ≤ xs.length ∧ i = .int .i64 k ∧ xs.take k = ys.take k ∧ Below w.heap.size w wr) (fun i _ => xs.length - (intOf i).toNat)
    case atStart => exact ⟨0, Nat.zero_le _, rfl, rfl, Below.refl _ _⟩
    case round =>
      obtain ⟨k, hk, rfl, htk, hb⟩ := hrel
      have HK := Lib.hid htk
      have HB := Lib.hid hb
      clear htk
      by_cases hlt : k < xs.length
      · obtain ⟨b, off, rfl, hbl, hc0⟩ := (HS.out.below hb).at1 hlt
        have hlt' : k < ys.length := by omega
        obtain ⟨b', off', rfl, hbl', hd0⟩ := (HT.out.below hb).at1 hlt'
        clear hb
        by_cases he : xs[k] = ys[k]
        · have HE := Lib.hid (take_eq k hlt hlt' HK.out he)
          have he' : (xs[k] != ys[k]) = false := by rw [bne_eq_false_iff_eq]; exact he
          clear he
          generalize xs[k] = x at *
          generalize ys[k] = y at *
          go_wp2_with fail
          go_quiet (fail)
          go_wp2_with fail
          go_roundw
          case rel => exact ⟨k + 1, by omega, by go_num, HE.out, below_drN HB.out _⟩
          case measure => simp [intOf]; omega
        · have HE := Lib.hid (eqL_at k hlt hlt' he)
          have he' : (xs[k] != ys[k]) = true := by rw [bne_iff_ne]; exact he
          clear he
          generalize xs[k] = x at *
          generalize ys[k] = y at *
          go_wp2_with fail
          go_quiet (fail)
          go_wp2_with fail
          go_ret
          exact ⟨ret_bool HE.out.symm, below_drN HB.out _⟩
      · clear hb
        obtain rfl : k = xs.length := by omega
        go_wp2_with fail
        go_ret
        exact ⟨ret_bool (eqL_all HL.out HK.out).symm, HB.out⟩
  · have hl1 : ((xs.length : Int) != (ys.length : Int)) = true := by rw [bne_iff_ne]; omega
    have HL := Lib.hid (eqL_len hl)
    clear hl
    go_enter Try.func21, Try.ntmps21
    go_wp2_with fail
    go_ret
    exact ⟨ret_bool HL.out.symm, Below.refl _ _⟩

def neqP (a b c d : Int) : Bool := !(a == c && b == d)
theorem pne0 {x y : Int × Int} (h : x = y) : neqP x.1 x.2 y.1 y.2 = false := by subst h; simp [neqP]
theorem pne1 {x y : Int × Int} (h : ¬ x = y) : neqP x.1 x.2 y.1 y.2 = true := by
  unfold neqP
  by_cases h1 : x.1 = y.1 <;> by_cases h2 : x.2 = y.2 <;> simp [h1, h2]
  exact h (Prod.ext h1 h2)
theorem neq_range (w : World) (a b c d : Int) : (binOp .neq 56 (.agg #[.int .i64 a, .int .i64 b]) (.agg #[.int .i64 c, .int .i64 d])).run Try.prog w = .ok (.bool (neqP a b c d)) w := by
  rw [run_neq_struct, run_equalIn_agg w 9999 56 _ _ (by kernel_rfl) (by kernel_rfl)]
  unfold neqP
  go_simp
  by_cases h1 : a = c <;> by_cases h2 : b = d <;> simp [h1, h2]
theorem neq_force (w : World) (a b c d : Int) : (binOp .neq 23 (.agg #[.int .i64 a, .int .i64 b]) (.agg #[.int .i64 c, .int .i64 d])).run Try.prog w = .ok (.bool (neqP a b c d)) w := by
  rw [run_neq_struct, run_equalIn_agg w 9999 23 _ _ (by kernel_rfl) (by kernel_rfl)]
  unfold neqP
  go_simp
  by_cases h1 : a = c <;> by_cases h2 : b = d <;> simp [h1, h2]
theorem neq_frac (w : World) (a b c d : Int) : (binOp .neq 119 (.agg #[.int .i64 a, .int .i64 b]) (.agg #[.int .i64 c, .int .i64 d])).run Try.prog w = .ok (.bool (neqP a b c d)) w := by
  rw [run_neq_struct, run_equalIn_agg w 9999 119 _ _ (by kernel_rfl) (by kernel_rfl)]
  unfold neqP
  go_simp
  by_cases h1 : a = c <;> by_cases h2 : b = d <;> simp [h1, h2]
set_option maxHeartbeats 400000 in
theorem Forces_any (u v : Value) (xs ys : List (Int × Int)) (w : World) (hs : Sl e2 2 w u xs) (ht : Sl e2 2 w v ys) (hbig : xs.length ≤ 1000) (_ : ys.length ≤ 1000) :
    Calls Try.prog 53 #[u, v] w fun e w' => e = .returned (.bool (eqL xs ys)) ∧ Below w.heap.size w w' := by
  obtain ⟨A, c, rfl, hcap⟩ := hs.form
  obtain ⟨A', c', rfl, hcap'⟩ := ht.form
  have HS := Lib.hid hs
  have HT := Lib.hid ht
  have hq := neq_force
  clear hs ht
  by_cases hl : xs.length = ys.length
  · have hl1 : ((xs.length : Int) != (ys.length : Int)) = false := by rw [bne_eq_false_iff_eq]; omega
    have HL := Lib.hid hl
    have hl2 : xs.length ≤ ys.length := by omega
    have hl3 : ys.length ≤ xs.length := by omega
    clear hl
    go_enter Try.func53, Try.ntmps53
    go_wp2_with fail
    go_loopw [5] (fun i wr => ∃ k : Nat, k ≤ xs.length ∧ i = .int .i64 k ∧ xs.take k = ys.take k ∧ Below w.heap.size w wr) (fun i _ => xs.length - (intOf i).toNat)
    case atStart => exact ⟨0, Nat.zero_le _, rfl, rfl, Below.refl _ _⟩
    case round =>
      obtain ⟨k, hk, rfl, htk, hb⟩ := hrel
      have HK := Lib.hid htk
      have HB := Lib.hid hb
      clear htk
      by_cases hlt : k < xs.length
      · obtain ⟨b, off, rfl, hbl, hc0, hc1⟩ := (HS.out.below hb).at2 hlt
        have hlt' : k < ys.length := by omega
        obtain ⟨b', off', rfl, hbl', hd0, hd1⟩ := (HT.out.below hb).at2 hlt'
        clear hb
        by_cases he : xs[k] = ys[k]
        · have HE := Lib.hid (take_eq k hlt hlt' HK.out he)
          have he' := pne0 he
          clear he
          generalize xs[k] = x at *
          generalize ys[k] = y at *
          obtain ⟨x1, x2⟩ := x
          obtain ⟨y1, y2⟩ := y
          simp only at *
          go_wp2_with fail
          go_quiet (fail)
          go_wp2_with fail
          go_roundw
          case rel => exact ⟨k + 1, by omega, by go_num, HE.out, below_drN HB.out _⟩
          case measure => simp [intOf]; omega
        · have HE := Lib.hid (eqL_at k hlt hlt' he)
          have he' := pne1 he
          clear he
          generalize xs[k] = x at *
          generalize ys[k] = y at *
          obtain ⟨x1, x2⟩ := x
          obtain ⟨y1, y2⟩ := y
          simp only at *
          go_wp2_with fail
          go_quiet (fail)
          go_wp2_with fail
          go_ret
          exact ⟨ret_bool HE.out.symm, below_drN HB.out _⟩
      · clear hb
        obtain rfl : k = xs.length := by omega
        go_wp2_with fail
        go_ret
        exact ⟨ret_bool (eqL_all HL.out HK.out).symm, HB.out⟩
  · have hl1 : ((xs.length : Int) != (ys.length : Int)) = true := by rw [bne_iff_ne]; omega
    have HL := Lib.hid (eqL_len hl)
    clear hl
    go_enter Try.func53, Try.ntmps53
    go_wp2_with fail
    go_ret
    exact ⟨ret_bool HL.out.symm, Below.refl _ _⟩
end Go.Proofs.Ytekinmafdhgmpaa

namespace Go.Proofs.Ytekinmafdhgmpaa
open Go.RowKit Go.Shelf

def woundAround (path posts : List Pt) : List Int × Int := if pathErr path = 0 then (if postsErr path posts = 0 then (wound path posts 0, 0) else ([], postsErr path posts)) else ([], pathErr path)
theorem postsErr_ok {path posts : List Pt} (h : postsErr path posts = 0) : posts.length ≤ 10 ∧ ∀ p ∈ posts, postErr path p = 0 := by
  unfold postsErr at h
  by_cases h1 : 10 < posts.length
  · rw [if_pos h1] at h; omega
  · rw [if_neg h1] at h; exact ⟨by omega, (fb_ok _ _ _).1 h⟩
theorem ret_list {q : List Int × Int} {l : List Int} {a : Int} {r : Value} {base : Nat} {w : World} (h : q = (l, a)) (ho : Ow e1 1 3 base w r l) :
    Ending.returned (.tuple #[r, .int .i64 a]) = .returned (.tuple #[r, .int .i64 q.2]) ∧ Ow e1 1 3 base w r q.1 := by rw [h]; exact ⟨rfl, ho⟩

theorem At.grown {W W' : World} {p : Addr} {v : Value} {row : Option Nat} (h : At W p v) (hg : W.grownBy W' row) (hne : row ≠ some p.block) : At W' p v :=
  ⟨hg.cell h.1 (Ne.symm hne), (World.frozen?_of_block (hg.block _ h.lt (Ne.symm hne))).trans h.2⟩
theorem Ow.apart {α : Type} {enc : α → List Value} {s : Nat} {e : TypeId} {base : Nat} {w : World} {v : Value} {xs : List α} (h : Ow enc s e base w v xs) {k : Nat} (hk : k < base) : v.ownBlock ≠ some k :=
  fun e => by have := (World.ownsRow.lt h k e).1; omega
end Go.Proofs.Ytekinmafdhgmpaa
