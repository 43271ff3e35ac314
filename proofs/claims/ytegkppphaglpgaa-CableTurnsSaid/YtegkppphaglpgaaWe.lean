/-
  Walks: lists compared item by item; the posts around which a path is wound, as the program tells them.
-/
import Derived.Test.YtegkppphaglpgaaWd
namespace Go.Proofs.Ytegkppphaglpgaa
open Go.RowKit Go.Shelf

def eqL {α : Type} [DecidableEq α] (xs ys : List α) : Bool := decide (xs = ys)
theorem eqL_refl {α : Type} [DecidableEq α] (xs : List α) : eqL xs xs = true := by simp [eqL]
theorem eqL_len {α : Type} [DecidableEq α] {xs ys : List α} (h : xs.length ≠ ys.length) : eqL xs ys = false := by
  unfold eqL; rw [decide_eq_false_iff_not]; rintro rfl; exact h rfl
theorem eqL_at {α : Type} [DecidableEq α] {xs ys : List α} (k : Nat) (h1 : k < xs.length) (h2 : k < ys.length) (h : xs[k] ≠ ys[k]) : eqL xs ys = false := by
  unfold eqL; rw [decide_eq_false_iff_not]; rintro rfl; exact h rfl
theorem take_eq {α : Type} {xs ys : List α} (k : Nat) (h1 : k < xs.length) (h2 : k < ys.length) (ht : xs.take k = ys.take k) (h : xs[k] = ys[k]) : xs.take (k + 1) = ys.take (k + 1) := by
  rw [List.take_succ_eq_append_getElem h1, List.take_succ_eq_append_getElem h2, ht, h]
theorem eqL_all {α : Type} [DecidableEq α] {xs ys : List α} (hl : xs.length = ys.length) (ht : xs.take xs.length = ys.take xs.length) : eqL xs ys = true := by
  rw [List.take_length, hl, List.take_length] at ht; subst ht; exact eqL_refl _

theorem below_drN {w w1 : World} (h : Below w.heap.size w w1) (n : Nat) : Below w.heap.size w (w1.drewN n) := ⟨h.os, h.tape, h.output, h.size, h.block⟩
set_option maxHeartbeats 400000 in
theorem Ints_any (u v : Value) (xs ys : List (Int)) (w : World) (hs : Sl e1 1 w u xs) (ht : Sl e1 1 w v ys) (hbig : xs.length ≤ 1000) (_ : ys.length ≤ 1000) :
    Calls Try.prog 24 #[u, v] w fun e w' => e = .returned (.bool (eqL xs ys)) ∧ Below w.heap.size w w' := by
  obtain ⟨A, c, rfl, hcap⟩ := hs.form
  obtain ⟨A', c', rfl, hcap'⟩ := ht.form
  have HS := Lib.hid hs
  have HT := Lib.hid ht
  clear hs ht
  by_cases hl : xs.length = ys.length
  · have hl1 : ((xs.length : Int) != (ys.length : Int)) = false := by rw [bne_eq_false_iff_eq]; omega
    have HL := Lib.hid hl
    have hl2 : xs.length ≤ ys.length := by omega
    have hl3 : ys.length ≤ xs.length := by omega
    clear hl
    go_enter Try.func24, Try.ntmps24
    go_wp2_with fail
    go_loopw [5] (fun i wr => ∃ k : Nat, k ≤ xs.length ∧ i = .int .i64 k ∧ xs.take k = ys.take k ∧ Below w.heap.size w wr) (fun i _ => xs.length - (intOf i).toNat)
    case atStart => exact ⟨0, Nat.zero_le _, rfl, rfl, Below.refl _ _⟩
    case round =>
      obtain ⟨k, hk, rfl, htk, hb⟩ := hrel
      have HK := Lib.hid htk
      have HB := Lib.hid hb
      clear htk
      by_cases hlt : k < xs.length
      · obtain ⟨b, off, rfl, hbl, hc0⟩ := (HS.out.below hb).at1 hlt
        have hlt' : k < ys.length := by omega
        obtain ⟨b', off', rfl, hbl', hd0⟩ := (HT.out.below hb).at1 hlt'
        clear hb
        by_cases he : xs[k] = ys[k]
        · have HE := Lib.hid (take_eq k hlt hlt' HK.out he)
          have he' : (xs[k] != ys[k]) = false := by rw [bne_eq_false_iff_eq]; exact he
          clear he
          generalize xs[k] = x at *
          generalize ys[k] = y at *
          go_wp2_with fail
          go_quiet (fail)
          go_wp2_with fail
          go_roundw
          case rel => exact ⟨k + 1, by omega, by go_num, HE.out, below_drN HB.out _⟩
          case measure => simp [intOf]; omega
        · have HE := Lib.hid (eqL_at k hlt hlt' he)
          have he' : (xs[k] != ys[k]) = true := by rw [bne_iff_ne]; exact he
          clear he
          generalize xs[k] = x at *
          generalize ys[k] = y at *
          go_wp2_with fail
          go_quiet (fail)
          go_wp2_with fail
          go_ret
          exact ⟨ret_bool HE.out.symm, below_drN HB.out _⟩
      · clear hb
        obtain rfl : k = xs.length := by omega
        go_wp2_with fail
        go_ret
        exact ⟨ret_bool (eqL_all HL.out HK.out).symm, HB.out⟩
  · have hl1 : ((xs.length : Int) != (ys.length : Int)) = true := by rw [bne_iff_ne]; omega
    have HL := Lib.hid (eqL_len hl)
    clear hl
    go_enter Try.func24, Try.ntmps24
    go_wp2_with fail
    go_ret
    exact ⟨ret_bool HL.out.symm, Below.refl _ _⟩

def neqP (a b c d : Int) : Bool := !(a == c && b == d)
theorem pne0 {x y : Int × Int} (h : x = y) : neqP x.1 x.2 y.1 y.2 = false := by subst h; simp [neqP]
theorem pne1 {x y : Int × Int} (h : ¬ x = y) : neqP x.1 x.2 y.1 y.2 = true := by
  unfold neqP
  by_cases h1 : x.1 = y.1 <;> by_cases h2 : x.2 = y.2 <;> simp [h1, h2]
  exact h (Prod.ext h1 h2)
theorem neq_range (w : World) (a b c d : Int) : (binOp .neq 66 (.agg #[.int .i64 a, .int .i64 b]) (.agg #[.int .i64 c, .int .i64 d])).run Try.prog w = .ok (.bool (neqP a b c d)) w := by
  rw [run_neq_struct, run_equalIn_agg w 9999 66 _ _ (by kernel_rfl) (by kernel_rfl)]
  unfold neqP
  go_simp
  by_cases h1 : a = c <;> by_cases h2 : b = d <;> simp [h1, h2]
theorem neq_force (w : World) (a b c d : Int) : (binOp .neq 23 (.agg #[.int .i64 a, .int .i64 b]) (.agg #[.int .i64 c, .int .i64 d])).run Try.prog w = .ok (.bool (neqP a b c d)) w := by
  rw [run_neq_struct, run_equalIn_agg w 9999 23 _ _ (by kernel_rfl) (by kernel_rfl)]
  unfold neqP
  go_simp
  by_cases h1 : a = c <;> by_cases h2 : b = d <;> simp [h1, h2]
theorem neq_frac (w : World) (a b c d : Int) : (binOp .neq 75 (.agg #[.int .i64 a, .int .i64 b]) (.agg #[.int .i64 c, .int .i64 d])).run Try.prog w = .ok (.bool (neqP a b c d)) w := by
  rw [run_neq_struct, run_equalIn_agg w 9999 75 _ _ (by kernel_rfl) (by kernel_rfl)]
  unfold neqP
  go_simp
  by_cases h1 : a = c <;> by_cases h2 : b = d <;> simp [h1, h2]
set_option maxHeartbeats 400000 in
theorem Ranges_any (u v : Value) (xs ys : List (Int × Int)) (w : World) (hs : Sl e2 2 w u xs) (ht : Sl e2 2 w v ys) (hbig : xs.length ≤ 1000) (_ : ys.length ≤ 1000) :
    Calls Try.prog 62 #[u, v] w fun e w' => e = .returned (.bool (eqL xs ys)) ∧ Below w.heap.size w w' := by
  obtain ⟨A, c, rfl, hcap⟩ := hs.form
  obtain ⟨A', c', rfl, hcap'⟩ := ht.form
  have HS := Lib.hid hs
  have HT := Lib.hid ht
  have hq := neq_range
  clear hs ht
  by_cases hl : xs.length = ys.length
  · have hl1 : ((xs.length : Int) != (ys.length : Int)) = false := by rw [bne_eq_false_iff_eq]; omega
    have HL := Lib.hid hl
    have hl2 : xs.length ≤ ys.length := by omega
    have hl3 : ys.length ≤ xs.length := by omega
    clear hl
    go_enter Try.func62, Try.ntmps62
    go_wp2_with fail
    go_loopw [5] (fun i wr => ∃ k : Nat, k ≤ xs.length ∧ i = .int .i64 k ∧ xs.take k = ys.take k ∧ Below w.heap.size w wr) (fun i _ => xs.length - (intOf i).toNat)
    case atStart => exact ⟨0, Nat.zero_le _, rfl, rfl, Below.refl _ _⟩
    case round =>
      obtain ⟨k, hk, rfl, htk, hb⟩ := hrel
      have HK := Lib.hid htk
      have HB := Lib.hid hb
      clear htk
      by_cases hlt : k < xs.length
      · obtain ⟨b, off, rfl, hbl, hc0, hc1⟩ := (HS.out.below hb).at2 hlt
        have hlt' : k < ys.length := by omega
        obtain ⟨b', off', rfl, hbl', hd0, hd1⟩ := (HT.out.below hb).at2 hlt'
        clear hb
        by_cases he : xs[k] = ys[k]
        · have HE := Lib.hid (take_eq k hlt hlt' HK.out he)
          have he' := pne0 he
          clear he
          generalize xs[k] = x at *
          generalize ys[k] = y at *
          obtain ⟨x1, x2⟩ := x
          obtain ⟨y1, y2⟩ := y
          simp only at *
          go_wp2_with fail
          go_quiet (fail)
          go_wp2_with fail
          go_roundw
          case rel => exact ⟨k + 1, by omega, by go_num, HE.out, below_drN HB.out _⟩
          case measure => simp [intOf]; omega
        · have HE := Lib.hid (eqL_at k hlt hlt' he)
          have he' := pne1 he
          clear he
          generalize xs[k] = x at *
          generalize ys[k] = y at *
          obtain ⟨x1, x2⟩ := x
          obtain ⟨y1, y2⟩ := y
          simp only at *
          go_wp2_with fail
          go_quiet (fail)
          go_wp2_with fail
          go_ret
          exact ⟨ret_bool HE.out.symm, below_drN HB.out _⟩
      · clear hb
        obtain rfl : k = xs.length := by omega
        go_wp2_with fail
        go_ret
        exact ⟨ret_bool (eqL_all HL.out HK.out).symm, HB.out⟩
  · have hl1 : ((xs.length : Int) != (ys.length : Int)) = true := by rw [bne_iff_ne]; omega
    have HL := Lib.hid (eqL_len hl)
    clear hl
    go_enter Try.func62, Try.ntmps62
    go_wp2_with fail
    go_ret
    exact ⟨ret_bool HL.out.symm, Below.refl _ _⟩
set_option maxHeartbeats 400000 in
theorem Forces_any (u v : Value) (xs ys : List (Int × Int)) (w : World) (hs : Sl e2 2 w u xs) (ht : Sl e2 2 w v ys) (hbig : xs.length ≤ 1000) (_ : ys.length ≤ 1000) :
    Calls Try.prog 37 #[u, v] w fun e w' => e = .returned (.bool (eqL xs ys)) ∧ Below w.heap.size w w' := by
  obtain ⟨A, c, rfl, hcap⟩ := hs.form
  obtain ⟨A', c', rfl, hcap'⟩ := ht.form
  have HS := Lib.hid hs
  have HT := Lib.hid ht
  have hq := neq_force
  clear hs ht
  by_cases hl : xs.length = ys.length
  · have hl1 : ((xs.length : Int) != (ys.length : Int)) = false := by rw [bne_eq_false_iff_eq]; omega
    have HL := Lib.hid hl
    have hl2 : xs.length ≤ ys.length := by omega
    have hl3 : ys.length ≤ xs.length := by omega
    clear hl
    go_enter Try.func37, Try.ntmps37
    go_wp2_with fail
    go_loopw [5] (fun i wr => ∃ k : Nat, k ≤ xs.length ∧ i = .int .i64 k ∧ xs.take k = ys.take k ∧ Below w.heap.size w wr) (fun i _ => xs.length - (intOf i).toNat)
    case atStart => exact ⟨0, Nat.zero_le _, rfl, rfl, Below.refl _ _⟩
    case round =>
      obtain ⟨k, hk, rfl, htk, hb⟩ := hrel
      have HK := Lib.hid htk
      have HB := Lib.hid hb
      clear htk
      by_cases hlt : k < xs.length
      · obtain ⟨b, off, rfl, hbl, hc0, hc1⟩ := (HS.out.below hb).at2 hlt
        have hlt' : k < ys.length := by omega
        obtain ⟨b', off', rfl, hbl', hd0, hd1⟩ := (HT.out.below hb).at2 hlt'
        clear hb
        by_cases he : xs[k] = ys[k]
        · have HE := Lib.hid (take_eq k hlt hlt' HK.out he)
          have he' := pne0 he
          clear he
          generalize xs[k] = x at *
          generalize ys[k] = y at *
          obtain ⟨x1, x2⟩ := x
          obtain ⟨y1, y2⟩ := y
          simp only at *
          go_wp2_with fail
          go_quiet (fail)
          go_wp2_with fail
          go_roundw
          case rel => exact ⟨k + 1, by omega, by go_num, HE.out, below_drN HB.out _⟩
          case measure => simp [intOf]; omega
        · have HE := Lib.hid (eqL_at k hlt hlt' he)
          have he' := pne1 he
          clear he
          generalize xs[k] = x at *
          generalize ys[k] = y at *
          obtain ⟨x1, x2⟩ := x
          obtain ⟨y1, y2⟩ := y
          simp only at *
          go_wp2_with fail
          go_quiet (fail)
          go_wp2_with fail
          go_ret
          exact ⟨ret_bool HE.out.symm, below_drN HB.out _⟩
      · clear hb
        obtain rfl : k = xs.length := by omega
        go_wp2_with fail
        go_ret
        exact ⟨ret_bool (eqL_all HL.out HK.out).symm, HB.out⟩
  · have hl1 : ((xs.length : Int) != (ys.length : Int)) = true := by rw [bne_iff_ne]; omega
    have HL := Lib.hid (eqL_len hl)
    clear hl
    go_enter Try.func37, Try.ntmps37
    go_wp2_with fail
    go_ret
    exact ⟨ret_bool HL.out.symm, Below.refl _ _⟩
set_option maxHeartbeats 400000 in
theorem Fracs_any (u v : Value) (xs ys : List (Int × Int)) (w : World) (hs : Sl e2 2 w u xs) (ht : Sl e2 2 w v ys) (hbig : xs.length ≤ 1000) (_ : ys.length ≤ 1000) :
    Calls Try.prog 43 #[u, v] w fun e w' => e = .returned (.bool (eqL xs ys)) ∧ Below w.heap.size w w' := by
  obtain ⟨A, c, rfl, hcap⟩ := hs.form
  obtain ⟨A', c', rfl, hcap'⟩ := ht.form
  have HS := Lib.hid hs
  have HT := Lib.hid ht
  have hq := neq_frac
  clear hs ht
  by_cases hl : xs.length = ys.length
  · have hl1 : ((xs.length : Int) != (ys.length : Int)) = false := by rw [bne_eq_false_iff_eq]; omega
    have HL := Lib.hid hl
    have hl2 : xs.length ≤ ys.length := by omega
    have hl3 : ys.length ≤ xs.length := by omega
    clear hl
    go_enter Try.func43, Try.ntmps43
    go_wp2_with fail
    go_loopw [5] (fun i wr => ∃ k : Nat, k ≤ xs.length ∧ i = .int .i64 k ∧ xs.take k = ys.take k ∧ Below w.heap.size w wr) (fun i _ => xs.length - (intOf i).toNat)
    case atStart => exact ⟨0, Nat.zero_le _, rfl, rfl, Below.refl _ _⟩
    case round =>
      obtain ⟨k, hk, rfl, htk, hb⟩ := hrel
      have HK := Lib.hid htk
      have HB := Lib.hid hb
      clear htk
      by_cases hlt : k < xs.length
      · obtain ⟨b, off, rfl, hbl, hc0, hc1⟩ := (HS.out.below hb).at2 hlt
        have hlt' : k < ys.length := by omega
        obtain ⟨b', off', rfl, hbl', hd0, hd1⟩ := (HT.out.below hb).at2 hlt'
        clear hb
        by_cases he : xs[k] = ys[k]
        · have HE := Lib.hid (take_eq k hlt hlt' HK.out he)
          have he' := pne0 he
          clear he
          generalize xs[k] = x at *
          generalize ys[k] = y at *
          obtain ⟨x1, x2⟩ := x
          obtain ⟨y1, y2⟩ := y
          simp only at *
          go_wp2_with fail
          go_quiet (fail)
          go_wp2_with fail
          go_roundw
          case rel => exact ⟨k + 1, by omega, by go_num, HE.out, below_drN HB.out _⟩
          case measure => simp [intOf]; omega
        · have HE := Lib.hid (eqL_at k hlt hlt' he)
          have he' := pne1 he
          clear he
          generalize xs[k] = x at *
          generalize ys[k] = y at *
          obtain ⟨x1, x2⟩ := x
          obtain ⟨y1, y2⟩ := y
          simp only at *
          go_wp2_with fail
          go_quiet (fail)
          go_wp2_with fail
          go_ret
          exact ⟨ret_bool HE.out.symm, below_drN HB.out _⟩
      · clear hb
        obtain rfl : k = xs.length := by omega
        go_wp2_with fail
        go_ret
        exact ⟨ret_bool (eqL_all HL.out HK.out).symm, HB.out⟩
  · have hl1 : ((xs.length : Int) != (ys.length : Int)) = true := by rw [bne_iff_ne]; omega
    have HL := Lib.hid (eqL_len hl)
    clear hl
    go_enter Try.func43, Try.ntmps43
    go_wp2_with fail
    go_ret
    exact ⟨ret_bool HL.out.symm, Below.refl _ _⟩
end Go.Proofs.Ytegkppphaglpgaa
