/-
  Walks of chapter 1's turns: the two exported calls; copies of paths; comparisons of lists.
-/
import Derived.Test.YtghglgaimhfedaaQD
namespace Go.Proofs.Ytghglgaimhfedaa
open Go.RowKit Go.Shelf

theorem ptinfo : (Try.prog.info? 61).map (fun i => (i.zero, i.size, i.bytes)) = some (some (.agg #[.int .i64 0, .int .i64 0]), 2, 16) := by kernel_rfl

def windingOf (path : List Pt) (p : Pt) : Int × Int := if pathErr path = 0 then (if postErr path p = 0 then (winding path p, 0) else (0, postErr path p)) else (0, pathErr path)
theorem post_place {path : List Pt} {p : Pt} (h : postErr path p = 0) : placeOk p = true := by
  cases hc : placeOk p
  · rw [postErr_bad hc] at h; omega
  · rfl
theorem ret_pair {q : Int × Int} {a b : Int} (h : q = (a, b)) : Ending.returned (.tuple #[.int .i64 a, .int .i64 b]) = .returned (.tuple #[.int .i64 q.1, .int .i64 q.2]) := by rw [h]
set_option maxHeartbeats 400000 in
theorem WindingOf_any (v : Value) (path : List Pt) (p : Pt) (w : World) (hs : Sl e2 2 w v path) (hbig : path.length ≤ 1000) :
    Calls Try.prog 73 #[v, .agg #[.int .i64 p.1, .int .i64 p.2]] w fun e w' => e = .returned (.tuple #[.int .i64 (windingOf path p).1, .int .i64 (windingOf path p).2]) ∧ Below w.heap.size w w' := by
  have HS := Lib.hid hs
  obtain ⟨A, c, rfl, hcap⟩ := hs.form
  clear hs
  have HP := Lib.hid (pathError_any _ path _ (HS.out.alloc (.cells #[.int .i64 p.1, .int .i64 p.2] 61)) hbig)
  by_cases h1 : pathErr path = 0
  · obtain ⟨hp1, hp2, hp3⟩ := pathErr_ok h1
    have hsm := ways_sm hp3
    have HQ := Lib.hid (fun w1 hb => postError_any _ path p w1 ((HS.out.alloc (.cells #[.int .i64 p.1, .int .i64 p.2] 61)).below (w' := w1) hb) hp1 hp2 hsm)
    rw [h1] at HP
    by_cases h2 : postErr path p = 0
    · have HW := Lib.hid (fun w1 hs => winding_any (.slice A path.length c) path p w1 hs hp1 hp2 hsm (Sm.of (post_place h2)))
      have E : Hid (windingOf path p = (winding path p, 0)) := by unfold Hid windingOf; rw [if_pos h1, if_pos h2]
      rw [h2] at HQ
      generalize winding path p = wn at *
      clear h1 h2 hsm hp3
      go_enter Try.func73, Try.ntmps73
      go_wp2_with (first
        | (go_at_call 128; refine HP.out.mono ?_; rintro e w1 ⟨rfl, hb1⟩; obtain ⟨q1, _⟩ := ((At.new w #[.int .i64 p.1, .int .i64 p.2] 61 0 _ rfl).below hb1); obtain ⟨q2, _⟩ := ((At.new w #[.int .i64 p.1, .int .i64 p.2] 61 1 _ rfl).below hb1); have HB1 := Lib.hid hb1; clear hb1)
        | (go_at_call 129; refine (HQ.out _ HB1.out).mono ?_; rintro e w2 ⟨rfl, hb2⟩; have q3 := (hb2.cell (p := ⟨w.heap.size, 0, none⟩) (cell_lt q1)).trans q1; have q4 := (hb2.cell (p := ⟨w.heap.size, 1, none⟩) (cell_lt q2)).trans q2; have HB2 := Lib.hid (below_tr (below_tr (below_alloc1 _ _) HB1.out) hb2); clear hb2)
        | (go_at_call 130; refine (HW.out _ (HS.out.below HB2.out)).mono ?_; rintro e w3 ⟨rfl, hb3⟩))
      go_ret2
      exact ⟨ret_pair E.out, below_tr HB2.out hb3⟩
    · have E : Hid (windingOf path p = (0, postErr path p)) := by unfold Hid windingOf; rw [if_pos h1, if_neg h2]
      have h2' := ne1 h2
      generalize postErr path p = pe at *
      clear h1 h2 hsm hp3
      go_enter Try.func73, Try.ntmps73
      go_wp2_with (first
        | (go_at_call 128; refine HP.out.mono ?_; rintro e w1 ⟨rfl, hb1⟩; obtain ⟨q1, _⟩ := ((At.new w #[.int .i64 p.1, .int .i64 p.2] 61 0 _ rfl).below hb1); obtain ⟨q2, _⟩ := ((At.new w #[.int .i64 p.1, .int .i64 p.2] 61 1 _ rfl).below hb1); have HB1 := Lib.hid hb1; clear hb1)
        | (go_at_call 129; refine (HQ.out _ HB1.out).mono ?_; rintro e w2 ⟨rfl, hb2⟩))
      go_ret2
      exact ⟨ret_pair E.out, below_tr (below_tr (below_alloc1 _ _) HB1.out) hb2⟩
  · have E : Hid (windingOf path p = (0, pathErr path)) := by unfold Hid windingOf; rw [if_neg h1]
    have h2' := ne1 h1
    generalize pathErr path = pe at *
    clear h1
    go_enter Try.func73, Try.ntmps73
    go_wp2_with (go_at_call 128; refine HP.out.mono ?_; rintro e w1 ⟨rfl, hb1⟩)
    go_ret2
    exact ⟨ret_pair E.out, below_tr (below_alloc1 _ _) hb1⟩

/-- The closure that checks a post. -/
theorem post1_any (Bx : Nat) (v : Value) (path : List Pt) (p : Pt) (w : World) (hb : w.cell? ⟨Bx, 0, none⟩ = some v) (hs : Sl e2 2 w v path) (h0 : 0 < path.length) (h30 : path.length ≤ 30) (hsm : ∀ x ∈ ways path, Sm x.1 ∧ Sm x.2) :
    Calls Try.prog 132 #[.agg #[.int .i64 p.1, .int .i64 p.2], .pointer (some ⟨Bx, 0, none⟩)] w fun e w' => e = .returned (.int .i64 (postErr path p)) ∧ Below w.heap.size w w' := by
  have HS := Lib.hid hs
  obtain ⟨A, c, rfl, hcap⟩ := hs.form
  have hl := cell_lt hb
  simp only at hl
  have HQ := Lib.hid (postError_any _ path p _ (HS.out.alloc (.cells #[.int .i64 p.1, .int .i64 p.2] 61)) h0 h30 hsm)
  clear hs hsm
  go_enter Try.func132, Try.ntmps132
  go_wp2_with (go_at_call 129; refine HQ.out.mono ?_; rintro e w2 ⟨rfl, hb2⟩)
  go_ret
  exact ⟨rfl, below_tr (below_alloc1 _ _) hb2⟩

set_option maxHeartbeats 400000 in
theorem CopyPath_any (v : Value) (path : List Pt) (w : World) (hs : Sl e2 2 w v path) (hbig : path.length ≤ 1000) :
    Calls Try.prog 74 #[v] w fun e w' => ∃ r, e = .returned r ∧ Ow e2 2 61 w.heap.size w' r path ∧ Below w.heap.size w w' := by
  have HS := Lib.hid hs
  obtain ⟨A, c, rfl, hcap⟩ := hs.form
  obtain ⟨i0, hi, hz0, hz1, hz2⟩ := info_parts ptinfo
  have ho : Ow e2 2 61 w.heap.size (w.alloc (.cells #[] 61)) (.slice (some ⟨w.heap.size, 0, none⟩) 0 0) [] := Ow.lit w #[] [] (Nat.le_refl _) (by simp) rfl rfl
  have HO := Lib.hid ho
  clear hs ho
  go_enter Try.func74, Try.ntmps74
  go_wp2_with (at_builtin; refine wpList_append_sl _ rfl _ _ 107 rfl w.heap.size 61 i0 _ 2 16 Try.underlying107 hi hz0 hz1 hz2 rfl (by decide) e2_len e2_one _ [] rfl HO.out _ _ _ path rfl (HS.out.alloc _) (by simp; omega) (by decide) (by simp) ?_; intro v1 w2 hown1 hg1; have HO2 := Lib.hid hown1; have HG := Lib.hid hg1; clear hown1 hg1)
  go_ret
  exact ⟨_, rfl, by simpa using HO2.out, HO.out.grown HG.out (below_alloc1 _ _) (Nat.le_refl _)⟩
end Go.Proofs.Ytghglgaimhfedaa

namespace Go.Proofs.Ytghglgaimhfedaa
open Go.RowKit Go.Shelf

def eqL {α : Type} [DecidableEq α] (xs ys : List α) : Bool := decide (xs = ys)
theorem eqL_refl {α : Type} [DecidableEq α] (xs : List α) : eqL xs xs = true := by simp [eqL]
theorem eqL_len {α : Type} [DecidableEq α] {xs ys : List α} (h : xs.length ≠ ys.length) : eqL xs ys = false := by
  unfold eqL; rw [decide_eq_false_iff_not]; rintro rfl; exact h rfl
theorem eqL_at {α : Type} [DecidableEq α] {xs ys : List α} (k : Nat) (h1 : k < xs.length) (h2 : k < ys.length) (h : xs[k] ≠ ys[k]) : eqL xs ys = false := by
  unfold eqL; rw [decide_eq_false_iff_not]; rintro rfl; exact h rfl
theorem take_eq {α : Type} {xs ys : List α} (k : Nat) (h1 : k < xs.length) (h2 : k < ys.length) (ht : xs.take k = ys.take k) (h : xs[k] = ys[k]) : xs.take (k + 1) = ys.take (k + 1) := by
  rw [List.take_succ_eq_append_getElem h1, List.take_succ_eq_append_getElem h2, ht, h]
theorem eqL_all {α : Type} [DecidableEq α] {xs ys : List α} (hl : xs.length = ys.length) (ht : xs.take xs.length = ys.take xs.length) : eqL xs ys = true := by
  rw [List.take_length, hl, List.take_length] at ht; subst ht; exact eqL_refl _

theorem below_drN {w w1 : World} (h : Below w.heap.size w w1) (n : Nat) : Below w.heap.size w (w1.drewN n) := ⟨h.os, h.tape, h.output, h.size, h.block⟩
set_option maxHeartbeats 400000 in
theorem Ints_any (u v : Value) (xs ys : List (Int)) (w : World) (hs : Sl e1 1 w u xs) (ht : Sl e1 1 w v ys) (hbig : xs.length ≤ 1000) (_ : ys.length ≤ 1000) :
    Calls Try.prog 24 #[u, v] w fun e w' => e = .returned (.bool (eqL xs ys)) ∧ Below w.heap.size w w' := by
  obtain ⟨A, c, rfl, hcap⟩ := hs.form
  obtain ⟨A', c', rfl, hcap'⟩ := ht.form
  have HS := Lib.hid hs
  have HT := Lib.hid ht
  clear hs ht
  by_cases hl : xs.length = ys.length
  · have hl1 : ((xs.length : Int) != (ys.length : Int)) = false := by rw [bne_eq_false_iff_eq]; omega
    have HL := Lib.hid hl
    have hl2 : xs.length ≤ ys.length := by omega
    have hl3 : ys.length ≤ xs.length := by omega
    clear hl
    go_enter Try.func24, Try.ntmps24
    go_wp2_with fail
    go_loopw [5] (fun i wr => ∃ k : Nat, k ≤ xs.length ∧ i = .int .i64 k ∧ xs.take k = ys.take k ∧ Below w.heap.size w wr) (fun i _ => xs.length - (intOf i).toNat)
    case atStart => exact ⟨0, Nat.zero_le _, rfl, rfl, Below.refl _ _⟩
    case round =>
      obtain ⟨k, hk, rfl, htk, hb⟩ := hrel
      have HK := Lib.hid htk
      have HB := Lib.hid hb
      clear htk
      by_cases hlt : k < xs.length
      · obtain ⟨b, off, rfl, hbl, hc0⟩ := (HS.out.below hb).at1 hlt
        have hlt' : k < ys.length := by omega
        obtain ⟨b', off', rfl, hbl', hd0⟩ := (HT.out.below hb).at1 hlt'
        clear hb
        by_cases he : xs[k] = ys[k]
        · have HE := Lib.hid (take_eq k hlt hlt' HK.out he)
          have he' : (xs[k] != ys[k]) = false := by rw [bne_eq_false_iff_eq]; exact he
          clear he
          generalize xs[k] = x at *
          generalize ys[k] = y at *
          go_wp2_with fail
          go_quiet (fail)
          go_wp2_with fail
          go_roundw
          case rel => exact ⟨k + 1, by omega, by go_num, HE.out, below_drN HB.out _⟩
          case measure => simp [intOf]; omega
        · have HE := Lib.hid (eqL_at k hlt hlt' he)
          have he' : (xs[k] != ys[k]) = true := by rw [bne_iff_ne]; exact he
          clear he
          generalize xs[k] = x at *
          generalize ys[k] = y at *
          go_wp2_with fail
          go_quiet (fail)
          go_wp2_with fail
          go_ret
          exact ⟨ret_bool HE.out.symm, below_drN HB.out _⟩
      · clear hb
        obtain rfl : k = xs.length := by omega
        go_wp2_with fail
        go_ret
        exact ⟨ret_bool (eqL_all HL.out HK.out).symm, HB.out⟩
  · have hl1 : ((xs.length : Int) != (ys.length : Int)) = true := by rw [bne_iff_ne]; omega
    have HL := Lib.hid (eqL_len hl)
    clear hl
    go_enter Try.func24, Try.ntmps24
    go_wp2_with fail
    go_ret
    exact ⟨ret_bool HL.out.symm, Below.refl _ _⟩

def neqP (a b c d : Int) : Bool := !(a == c && b == d)
theorem pne0 {x y : Int × Int} (h : x = y) : neqP x.1 x.2 y.1 y.2 = false := by subst h; simp [neqP]
theorem pne1 {x y : Int × Int} (h : ¬ x = y) : neqP x.1 x.2 y.1 y.2 = true := by
  unfold neqP
  by_cases h1 : x.1 = y.1 <;> by_cases h2 : x.2 = y.2 <;> simp [h1, h2]
  exact h (Prod.ext h1 h2)
theorem neq_range (w : World) (a b c d : Int) : (binOp .neq 66 (.agg #[.int .i64 a, .int .i64 b]) (.agg #[.int .i64 c, .int .i64 d])).run Try.prog w = .ok (.bool (neqP a b c d)) w := by
  rw [run_neq_struct, run_equalIn_agg w 9999 66 _ _ (by kernel_rfl) (by kernel_rfl)]
  unfold neqP
  go_simp
  by_cases h1 : a = c <;> by_cases h2 : b = d <;> simp [h1, h2]
theorem neq_force (w : World) (a b c d : Int) : (binOp .neq 23 (.agg #[.int .i64 a, .int .i64 b]) (.agg #[.int .i64 c, .int .i64 d])).run Try.prog w = .ok (.bool (neqP a b c d)) w := by
  rw [run_neq_struct, run_equalIn_agg w 9999 23 _ _ (by kernel_rfl) (by kernel_rfl)]
  unfold neqP
  go_simp
  by_cases h1 : a = c <;> by_cases h2 : b = d <;> simp [h1, h2]
theorem neq_frac (w : World) (a b c d : Int) : (binOp .neq 75 (.agg #[.int .i64 a, .int .i64 b]) (.agg #[.int .i64 c, .int .i64 d])).run Try.prog w = .ok (.bool (neqP a b c d)) w := by
  rw [run_neq_struct, run_equalIn_agg w 9999 75 _ _ (by kernel_rfl) (by kernel_rfl)]
  unfold neqP
  go_simp
  by_cases h1 : a = c <;> by_cases h2 : b = d <;> simp [h1, h2]
set_option maxHeartbeats 400000 in
theorem Ranges_any (u v : Value) (xs ys : List (Int × Int)) (w : World) (hs : Sl e2 2 w u xs) (ht : Sl e2 2 w v ys) (hbig : xs.length ≤ 1000) (_ : ys.length ≤ 1000) :
    Calls Try.prog 62 #[u, v] w fun e w' => e = .returned (.bool (eqL xs ys)) ∧ Below w.heap.size w w' := by
  obtain ⟨A, c, rfl, hcap⟩ := hs.form
  obtain ⟨A', c', rfl, hcap'⟩ := ht.form
  have HS := Lib.hid hs
  have HT := Lib.hid ht
  have hq := neq_range
  clear hs ht
  by_cases hl : xs.length = ys.length
  · have hl1 : ((xs.length : Int) != (ys.length : Int)) = false := by rw [bne_eq_false_iff_eq]; omega
    have HL := Lib.hid hl
    have hl2 : xs.length ≤ ys.length := by omega
    have hl3 : ys.length ≤ xs.length := by omega
    clear hl
    go_enter Try.func62, Try.ntmps62
    go_wp2_with fail
    go_loopw [5] (fun i wr => ∃ k : Nat, k ≤ xs.length ∧ i = .int .i64 k ∧ xs.take k = ys.take k ∧ Below w.heap.size w wr) (fun i _ => xs.length - (intOf i).toNat)
    case atStart => exact ⟨0, Nat.zero_le _, rfl, rfl, Below.refl _ _⟩
    case round =>
      obtain ⟨k, hk, rfl, htk, hb⟩ := hrel
      have HK := Lib.hid htk
      have HB := Lib.hid hb
      clear htk
      by_cases hlt : k < xs.length
      · obtain ⟨b, off, rfl, hbl, hc0, hc1⟩ := (HS.out.below hb).at2 hlt
        have hlt' : k < ys.length := by omega
        obtain ⟨b', off', rfl, hbl', hd0, hd1⟩ := (HT.out.below hb).at2 hlt'
        clear hb
        by_cases he : xs[k] = ys[k]
        · have HE := Lib.hid (take_eq k hlt hlt' HK.out he)
          have he' := pne0 he
          clear he
          generalize xs[k] = x at *
          generalize ys[k] = y at *
          obtain ⟨x1, x2⟩ := x
          obtain ⟨y1, y2⟩ := y
          simp only at *
          go_wp2_with fail
          go_quiet (fail)
          go_wp2_with fail
          go_roundw
          case rel => exact ⟨k + 1, by omega, by go_num, HE.out, below_drN HB.out _⟩
          case measure => simp [intOf]; omega
        · have HE := Lib.hid (eqL_at k hlt hlt' he)
          have he' := pne1 he
          clear he
          generalize xs[k] = x at *
          generalize ys[k] = y at *
          obtain ⟨x1, x2⟩ := x
          obtain ⟨y1, y2⟩ := y
          simp only at *
          go_wp2_with fail
          go_quiet (fail)
          go_wp2_with fail
          go_ret
          exact ⟨ret_bool HE.out.symm, below_drN HB.out _⟩
      · clear hb
        obtain rfl : k = xs.length := by omega
        go_wp2_with fail
        go_ret
        exact ⟨ret_bool (eqL_all HL.out HK.out).symm, HB.out⟩
  · have hl1 : ((xs.length : Int) != (ys.length : Int)) = true := by rw [bne_iff_ne]; omega
    have HL := Lib.hid (eqL_len hl)
    clear hl
    go_enter Try.func62, Try.ntmps62
    go_wp2_with fail
    go_ret
    exact ⟨ret_bool HL.out.symm, Below.refl _ _⟩
set_option maxHeartbeats 400000 in
theorem Forces_any (u v : Value) (xs ys : List (Int × Int)) (w : World) (hs : Sl e2 2 w u xs) (ht : Sl e2 2 w v ys) (hbig : xs.length ≤ 1000) (_ : ys.length ≤ 1000) :
    Calls Try.prog 37 #[u, v] w fun e w' => e = .returned (.bool (eqL xs ys)) ∧ Below w.heap.size w w' := by
  obtain ⟨A, c, rfl, hcap⟩ := hs.form
  obtain ⟨A', c', rfl, hcap'⟩ := ht.form
  have HS := Lib.hid hs
  have HT := Lib.hid ht
  have hq := neq_force
  clear hs ht
  by_cases hl : xs.length = ys.length
  · have hl1 : ((xs.length : Int) != (ys.length : Int)) = false := by rw [bne_eq_false_iff_eq]; omega
    have HL := Lib.hid hl
    have hl2 : xs.length ≤ ys.length := by omega
    have hl3 : ys.length ≤ xs.length := by omega
    clear hl
    go_enter Try.func37, Try.ntmps37
    go_wp2_with fail
    go_loopw [5] (fun i wr => ∃ k : Nat, k ≤ xs.length ∧ i = .int .i64 k ∧ xs.take k = ys.take k ∧ Below w.heap.size w wr) (fun i _ => xs.length - (intOf i).toNat)
    case atStart => exact ⟨0, Nat.zero_le _, rfl, rfl, Below.refl _ _⟩
    case round =>
      obtain ⟨k, hk, rfl, htk, hb⟩ := hrel
      have HK := Lib.hid htk
      have HB := Lib.hid hb
      clear htk
      by_cases hlt : k < xs.length
      · obtain ⟨b, off, rfl, hbl, hc0, hc1⟩ := (HS.out.below hb).at2 hlt
        have hlt' : k < ys.length := by omega
        obtain ⟨b', off', rfl, hbl', hd0, hd1⟩ := (HT.out.below hb).at2 hlt'
        clear hb
        by_cases he : xs[k] = ys[k]
        · have HE := Lib.hid (take_eq k hlt hlt' HK.out he)
          have he' := pne0 he
          clear he
          generalize xs[k] = x at *
          generalize ys[k] = y at *
          obtain ⟨x1, x2⟩ := x
          obtain ⟨y1, y2⟩ := y
          simp only at *
          go_wp2_with fail
          go_quiet (fail)
          go_wp2_with fail
          go_roundw
          case rel => exact ⟨k + 1, by omega, by go_num, HE.out, below_drN HB.out _⟩
          case measure => simp [intOf]; omega
        · have HE := Lib.hid (eqL_at k hlt hlt' he)
          have he' := pne1 he
          clear he
          generalize xs[k] = x at *
          generalize ys[k] = y at *
          obtain ⟨x1, x2⟩ := x
          obtain ⟨y1, y2⟩ := y
          simp only at *
          go_wp2_with fail
          go_quiet (fail)
          go_wp2_with fail
          go_ret
          exact ⟨ret_bool HE.out.symm, below_drN HB.out _⟩
      · clear hb
        obtain rfl : k = xs.length := by omega
        go_wp2_with fail
        go_ret
        exact ⟨ret_bool (eqL_all HL.out HK.out).symm, HB.out⟩
  · have hl1 : ((xs.length : Int) != (ys.length : Int)) = true := by rw [bne_iff_ne]; omega
    have HL := Lib.hid (eqL_len hl)
    clear hl
    go_enter Try.func37, Try.ntmps37
    go_wp2_with fail
    go_ret
    exact ⟨ret_bool HL.out.symm, Below.refl _ _⟩
set_option maxHeartbeats 400000 in
theorem Fracs_any (u v : Value) (xs ys : List (Int × Int)) (w : World) (hs : Sl e2 2 w u xs) (ht : Sl e2 2 w v ys) (hbig : xs.length ≤ 1000) (_ : ys.length ≤ 1000) :
    Calls Try.prog 43 #[u, v] w fun e w' => e = .returned (.bool (eqL xs ys)) ∧ Below w.heap.size w w' := by
  obtain ⟨A, c, rfl, hcap⟩ := hs.form
  obtain ⟨A', c', rfl, hcap'⟩ := ht.form
  have HS := Lib.hid hs
  have HT := Lib.hid ht
  have hq := neq_frac
  clear hs ht
  by_cases hl : xs.length = ys.length
  · have hl1 : ((xs.length : Int) != (ys.length : Int)) = false := by rw [bne_eq_false_iff_eq]; omega
    have HL := Lib.hid hl
    have hl2 : xs.length ≤ ys.length := by omega
    have hl3 : ys.length ≤ xs.length := by omega
    clear hl
    go_enter Try.func43, Try.ntmps43
    go_wp2_with fail
    go_loopw [5] (fun i wr => ∃ k : Nat, k ≤ xs.length ∧ i = .int .i64 k ∧ xs.take k = ys.take k ∧ Below w.heap.size w wr) (fun i _ => xs.length - (intOf i).toNat)
    case atStart => exact ⟨0, Nat.zero_le _, rfl, rfl, Below.refl _ _⟩
    case round =>
      obtain ⟨k, hk, rfl, htk, hb⟩ := hrel
      have HK := Lib.hid htk
      have HB := Lib.hid hb
      clear htk
      by_cases hlt : k < xs.length
      · obtain ⟨b, off, rfl, hbl, hc0, hc1⟩ := (HS.out.below hb).at2 hlt
        have hlt' : k < ys.length := by omega
        obtain ⟨b', off', rfl, hbl', hd0, hd1⟩ := (HT.out.below hb).at2 hlt'
        clear hb
        by_cases he : xs[k] = ys[k]
        · have HE := Lib.hid (take_eq k hlt hlt' HK.out he)
          have he' := pne0 he
          clear he
          generalize xs[k] = x at *
          generalize ys[k] = y at *
          obtain ⟨x1, x2⟩ := x
          obtain ⟨y1, y2⟩ := y
          simp only at *
          go_wp2_with fail
          go_quiet (fail)
          go_wp2_with fail
          go_roundw
          case rel => exact ⟨k + 1, by omega, by go_num, HE.out, below_drN HB.out _⟩
          case measure => simp [intOf]; omega
        · have HE := Lib.hid (eqL_at k hlt hlt' he)
          have he' := pne1 he
          clear he
          generalize xs[k] = x at *
          generalize ys[k] = y at *
          obtain ⟨x1, x2⟩ := x
          obtain ⟨y1, y2⟩ := y
          simp only at *
          go_wp2_with fail
          go_quiet (fail)
          go_wp2_with fail
          go_ret
          exact ⟨ret_bool HE.out.symm, below_drN HB.out _⟩
      · clear hb
        obtain rfl : k = xs.length := by omega
        go_wp2_with fail
        go_ret
        exact ⟨ret_bool (eqL_all HL.out HK.out).symm, HB.out⟩
  · have hl1 : ((xs.length : Int) != (ys.length : Int)) = true := by rw [bne_iff_ne]; omega
    have HL := Lib.hid (eqL_len hl)
    clear hl
    go_enter Try.func43, Try.ntmps43
    go_wp2_with fail
    go_ret
    exact ⟨ret_bool HL.out.symm, Below.refl _ _⟩
end Go.Proofs.Ytghglgaimhfedaa

namespace Go.Proofs.Ytghglgaimhfedaa
open Go.RowKit Go.Shelf

def woundAround (path posts : List Pt) : List Int × Int := if pathErr path = 0 then (if postsErr path posts = 0 then (wound path posts 0, 0) else ([], postsErr path posts)) else ([], pathErr path)
theorem postsErr_ok {path posts : List Pt} (h : postsErr path posts = 0) : posts.length ≤ 10 ∧ ∀ p ∈ posts, postErr path p = 0 := by
  unfold postsErr at h
  by_cases h1 : 10 < posts.length
  · rw [if_pos h1] at h; omega
  · rw [if_neg h1] at h; exact ⟨by omega, (fb_ok _ _ _).1 h⟩
theorem ret_list {q : List Int × Int} {l : List Int} {a : Int} {r : Value} {base : Nat} {w : World} (h : q = (l, a)) (ho : Ow e1 1 3 base w r l) :
    Ending.returned (.tuple #[r, .int .i64 a]) = .returned (.tuple #[r, .int .i64 q.2]) ∧ Ow e1 1 3 base w r q.1 := by rw [h]; exact ⟨rfl, ho⟩

theorem At.grown {W W' : World} {p : Addr} {v : Value} {row : Option Nat} (h : At W p v) (hg : W.grownBy W' row) (hne : row ≠ some p.block) : At W' p v :=
  ⟨hg.cell h.1 (Ne.symm hne), (World.frozen?_of_block (hg.block _ h.lt (Ne.symm hne))).trans h.2⟩
theorem Ow.apart {α : Type} {enc : α → List Value} {s : Nat} {e : TypeId} {base : Nat} {w : World} {v : Value} {xs : List α} (h : Ow enc s e base w v xs) {k : Nat} (hk : k < base) : v.ownBlock ≠ some k :=
  fun e => by have := (World.ownsRow.lt h k e).1; omega
set_option maxRecDepth 100000 in
set_option maxHeartbeats 2000000 in
theorem WoundAround_any (v u : Value) (path posts : List Pt) (w : World) (hs : Sl e2 2 w v path) (hu : Sl e2 2 w u posts) (hbig : path.length ≤ 1000) (hbig' : posts.length ≤ 1000) :
    Calls Try.prog 75 #[v, u] w fun e w' => ∃ r, e = .returned (.tuple #[r, .int .i64 (woundAround path posts).2]) ∧ Ow e1 1 3 w.heap.size w' r (woundAround path posts).1 ∧ Below w.heap.size w w' := by
  obtain ⟨A, c, rfl, hcap⟩ := hs.form
  obtain ⟨A', c', rfl, hcap'⟩ := hu.form
  obtain ⟨i0, hi, hz0, hz1, hz2⟩ := info_parts intinfo
  have HS := Lib.hid hs
  have HU := Lib.hid hu
  clear hs hu
  have HP := Lib.hid (pathError_any _ path _ (HS.out.alloc (.cells #[.slice A path.length c] 107)) hbig)
  by_cases h1 : pathErr path = 0
  · obtain ⟨hp1, hp2, hp3⟩ := pathErr_ok h1
    have hsm := ways_sm hp3
    have HM := Lib.hid hsm
    rw [h1] at HP
    by_cases h2 : postsErr path posts = 0
    · have E : Hid (woundAround path posts = (wound path posts 0, 0)) := by unfold Hid woundAround; rw [if_pos h1, if_pos h2]
      obtain ⟨hn, hpo⟩ := postsErr_ok h2
      have HPO := Lib.hid hpo
      have hfb : (fb (postErr path) posts 0).2 = 0 := (fb_ok _ _ _).2 hpo
      have HFB := Lib.hid hfb
      clear h1 h2 hp3 hpo hsm hfb
      go_enter Try.func75, Try.ntmps75
      go_wp2_with (first
        | (go_at_call 128; refine HP.out.mono ?_; rintro e w1 ⟨rfl, hb1⟩; obtain ⟨q1, _⟩ := ((At.new w #[.slice A path.length c] 107 0 _ rfl).below hb1); have HBa := Lib.hid hb1; have HB1 := Lib.hid (below_tr (below_alloc1 _ _) hb1); clear hb1)
        | (go_at_call 131; refine (fb2_any 132 #[.pointer (some ⟨w.heap.size, 0, none⟩)] (enters_of Try.func132 (by kernel_rfl) rfl) (postErr path) _ posts _ (HU.out.below HB1.out) hbig' (fun W => W.cell? ⟨w.heap.size, 0, none⟩ = some (.slice A path.length c) ∧ Sl e2 2 W (.slice A path.length c) path) (fun W W' h hb => ⟨(hb.cell (p := ⟨w.heap.size, 0, none⟩) (cell_lt h.1)).trans h.1, h.2.below hb⟩) ⟨q1, HS.out.below HB1.out⟩ (fun x _ W h => post1_any _ _ path x W h.1 h.2 hp1 hp2 HM.out)).mono ?_; rw [HFB.out]; rintro e w2 ⟨rfl, hb2⟩; have q2 := (hb2.cell (p := ⟨w.heap.size, 0, none⟩) (cell_lt q1)).trans q1; have HBb := Lib.hid hb2; have HB2 := Lib.hid (below_tr HB1.out hb2); clear hb2))
      go_loopw [9, 10, 11, 31] (fun r _ _ i wr => ∃ (k : Nat) (acc : List Int), k ≤ posts.length ∧ i = .int .i64 k ∧ acc.length ≤ k ∧ Ow e1 1 3 (w.heap.size + 1) wr r acc ∧ acc ++ wound path (posts.drop k) k = wound path posts 0 ∧ Below w.heap.size w wr ∧ At wr ⟨w.heap.size, 0, none⟩ (.slice A path.length c)) (fun _ _ _ i _ => posts.length - (intOf i).toNat)
      case atStart => exact ⟨0, [], Nat.zero_le _, rfl, Nat.le_refl _, Ow.nil _ _ _ _ _, rfl, HB2.out, ((At.new w #[.slice A path.length c] 107 0 _ rfl).below HBa.out).below HBb.out⟩
      case round =>
        obtain ⟨k, acc, hk, rfl, hal, hown, hfb, hb, hat⟩ := hrel
        have HF := Lib.hid hfb
        have HB := Lib.hid hb
        have HO := Lib.hid hown
        have HA := Lib.hid hat
        have hq := hat.1
        have hql := hat.lt
        simp only at hql
        clear hfb hown hat
        by_cases hlt : k < posts.length
        · obtain ⟨b, off, rfl, hbl, hc0, hc1⟩ := (HU.out.below hb).at2 hlt
          have hf := wound_drop path posts k hlt
          have HD := Lib.hid hf
          have hp := winding_any _ path posts[k] _ ((HS.out.below hb).alloc (.cells #[.int .i64 posts[k].1, .int .i64 posts[k].2] 61)) hp1 hp2 HM.out (Sm.of (post_place (HPO.out _ (List.getElem_mem hlt))))
          have HW := Lib.hid hp
          clear hf hb hp
          by_cases he : winding path posts[k] = 0
          · have he' := ne0 he
            generalize winding path posts[k] = er at *
            go_wp2_with (go_at_call 130; refine HW.out.mono ?_; rintro e w3 ⟨rfl, hb3⟩)
            go_roundw
            case rel => exact ⟨k + 1, acc, by omega, by go_num, by omega, (HO.out.alloc _).below hb3, by rw [← HF.out, HD.out, if_pos he], below_tr (below_al HB.out _) hb3, (HA.out.al _).below hb3⟩
            case measure => simp [intOf]; omega
          · have he' := ne1 he
            generalize winding path posts[k] = er at *
            go_wp2_with (first
              | (go_at_call 130; refine HW.out.mono ?_; rintro e w3 ⟨rfl, hb3⟩; have HO1 := Lib.hid ((HO.out.alloc _).below hb3); have HA1 := Lib.hid ((HA.out.al _).below hb3); have HB1 := Lib.hid (below_tr (below_al HB.out _) hb3); clear hb3)
              | (at_builtin; refine wpList_append_own _ rfl _ _ 36 rfl (w.heap.size + 1) 3 i0 _ 1 8 Try.underlying36 hi hz0 hz1 hz2 rfl (by decide) _ _ _ rfl (HO1.out.own.alloc _) ⟨_, 0, none⟩ 1 1 (e1 k) rfl rfl (cells_new _ _ _) (e1_one _) (by simp only [maxLen]; omega) (by omega) (by have := HA1.out.lt; simp at this ⊢; omega) ?_; intro v1 w4 hown1 hg1 _; have HO2 := Lib.hid hown1; have HG := Lib.hid hg1; clear hown1 hg1))
            go_roundw
            case rel => exact ⟨k + 1, acc ++ [(k : Int)], by omega, by go_num, by simp; omega, Ow.snoc HO2.out, by rw [← HF.out, HD.out, if_neg he]; simp, (below_al HB1.out _).grown HG.out (below_al HB1.out _).size (fun j e => by have := (World.ownsRow.lt HO1.out j e).1; omega), (HA1.out.al _).grown HG.out (HO1.out.apart (by simp))⟩
            case measure => simp [intOf]; omega
        · clear hb
          obtain rfl : k = posts.length := by omega
          go_wp2_with fail
          go_ret2
          have hfin : acc = wound path posts 0 := by
            have := HF.out
            rw [List.drop_of_length_le (Nat.le_refl _), wound, List.append_nil] at this
            exact this
          subst hfin
          exact ⟨_, (ret_list E.out (HO.out.less (Nat.le_succ _))).1, (ret_list E.out (HO.out.less (Nat.le_succ _))).2, HB.out⟩
    · have E : Hid (woundAround path posts = ([], postsErr path posts)) := by unfold Hid woundAround; rw [if_pos h1, if_neg h2]
      have h2' := ne1 h2
      by_cases h3 : 10 < posts.length
      · have e8 : postsErr path posts = 8 := by unfold postsErr; rw [if_pos h3]
        rw [e8] at E
        clear h1 h2 h2' e8 hsm hp3
        go_enter Try.func75, Try.ntmps75
        go_wp2_with (go_at_call 128; refine HP.out.mono ?_; rintro e w1 ⟨rfl, hb1⟩; obtain ⟨q1, _⟩ := ((At.new w #[.slice A path.length c] 107 0 _ rfl).below hb1))
        go_ret2
        exact ⟨_, (ret_list E.out (Ow.nil _ _ _ w.heap.size w)).1, (ret_list E.out (Ow.nil _ _ _ w.heap.size _)).2, below_tr (below_alloc1 _ _) hb1⟩
      · have ee : postsErr path posts = (fb (postErr path) posts 0).2 := by unfold postsErr; rw [if_neg h3]
        rw [ee] at E h2'
        clear h1 h2 ee hsm hp3
        go_enter Try.func75, Try.ntmps75
        go_wp2_with (first
          | (go_at_call 128; refine HP.out.mono ?_; rintro e w1 ⟨rfl, hb1⟩; obtain ⟨q1, _⟩ := ((At.new w #[.slice A path.length c] 107 0 _ rfl).below hb1); have HB1 := Lib.hid (below_tr (below_alloc1 _ _) hb1); clear hb1)
          | (go_at_call 131; refine (fb2_any 132 #[.pointer (some ⟨w.heap.size, 0, none⟩)] (enters_of Try.func132 (by kernel_rfl) rfl) (postErr path) _ posts _ (HU.out.below HB1.out) hbig' (fun W => W.cell? ⟨w.heap.size, 0, none⟩ = some (.slice A path.length c) ∧ Sl e2 2 W (.slice A path.length c) path) (fun W W' h hb => ⟨(hb.cell (p := ⟨w.heap.size, 0, none⟩) (cell_lt h.1)).trans h.1, h.2.below hb⟩) ⟨q1, HS.out.below HB1.out⟩ (fun x _ W h => post1_any _ _ path x W h.1 h.2 hp1 hp2 HM.out)).mono ?_; rintro e w2 ⟨rfl, hb2⟩; generalize (fb (postErr path) posts 0).2 = pe at *))
        go_ret2
        exact ⟨_, (ret_list E.out (Ow.nil _ _ _ w.heap.size w)).1, (ret_list E.out (Ow.nil _ _ _ w.heap.size _)).2, below_tr HB1.out hb2⟩
  · have E : Hid (woundAround path posts = ([], pathErr path)) := by unfold Hid woundAround; rw [if_neg h1]
    have h1' := ne1 h1
    generalize pathErr path = pe at *
    clear h1
    go_enter Try.func75, Try.ntmps75
    go_wp2_with (go_at_call 128; refine HP.out.mono ?_; rintro e w1 ⟨rfl, hb1⟩)
    go_ret2
    exact ⟨_, (ret_list E.out (Ow.nil _ _ _ w.heap.size w)).1, (ret_list E.out (Ow.nil _ _ _ w.heap.size _)).2, below_tr (below_alloc1 _ _) hb1⟩
end Go.Proofs.Ytghglgaimhfedaa
