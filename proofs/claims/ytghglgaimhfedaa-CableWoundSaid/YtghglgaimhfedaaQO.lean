/-
  Walks of chapter 1: strengths, roots, membership.
-/
import Derived.Test.YtghglgaimhfedaaZMf
import Derived.Test.YtghglgaimhfedaaZMg
namespace Go.Proofs.Ytghglgaimhfedaa
open Go.RowKit Go.Shelf
attribute [local go_sem] monoUpon_value monoUpon_skip monoUpon_enter

/-! ### strengths -/
def strErr (n : Int) : Int := limErr 0 50000 n
def strsErr (l : Ln) (s : List Int) : Int := if s.length = l.ks.length then (fb strErr s 0).2 else 10
theorem strErr_ok {n : Int} : strErr n = 0 ↔ 0 ≤ n ∧ n ≤ 50000 := by
  unfold strErr limErr
  split
  · simp; omega
  · simp; omega
theorem strErr_in {n : Int} (h : inB n 0 50000 = true) : strErr n = 0 := strErr_ok.2 (inB_iff.1 h)
theorem strErr_out {n : Int} (h : inB n 0 50000 = false) : strErr n = 2 := by
  have := inB_no h
  unfold strErr limErr
  split
  · omega
  · rfl
theorem strsErr_ok {l : Ln} {s : List Int} (h : strsErr l s = 0) : s.length = l.ks.length ∧ ∀ n ∈ s, 0 ≤ n ∧ n ≤ 50000 := by
  unfold strsErr at h
  by_cases h1 : s.length = l.ks.length
  · rw [if_pos h1] at h
    exact ⟨h1, fun n hn => strErr_ok.1 ((fb_ok _ s 0).1 h n hn)⟩
  · rw [if_neg h1] at h; omega
theorem strsErr_of {l : Ln} {s : List Int} (h : s.length = l.ks.length) (h' : ∀ n ∈ s, 0 ≤ n ∧ n ≤ 50000) : strsErr l s = 0 := by
  unfold strsErr
  rw [if_pos h]
  exact (fb_ok _ s 0).2 fun n hn => strErr_ok.2 (h' n hn)
theorem str1_any (n : Int) (w : World) :
    Calls Try.prog 151 #[.int .i64 n] w fun e w' => e = .returned (.int .i64 (strErr n)) ∧ Below w.heap.size w w' := by
  go_enter Try.func151, Try.ntmps151
  go_wp2_with (go_at_call 91; refine (LimitError_any _ _ _ _).mono ?_; rintro e w' ⟨rfl, rfl⟩)
  go_ret
  exact ⟨rfl, Below.refl _ _⟩
set_option maxHeartbeats 400000 in
theorem strengthsError_any (v u : Value) (l : Ln) (s : List Int) (w : World) (hs : Sl e3 3 w v l.ks) (hu : Sl e1 1 w u s) (hbig' : s.length ≤ 1000) :
    Calls Try.prog 117 #[.agg #[.int .i64 l.x, .int .i64 l.z, v], u] w fun e w' => e = .returned (.int .i64 (strsErr l s)) ∧ Below w.heap.size w w' := by
  obtain ⟨A, c, rfl, hcap⟩ := hs.form
  obtain ⟨A', c', rfl, hcap'⟩ := hu.form
  have HU := Lib.hid (hu.alloc (.cells #[.int .i64 l.x, .int .i64 l.z, .slice A l.ks.length c] 26))
  clear hs hu
  by_cases h2 : s.length = l.ks.length
  · have E : Hid (strsErr l s = (fb strErr s 0).2) := if_pos h2
    have h2' := lenb h2
    clear h2
    go_enter Try.func117, Try.ntmps117
    go_wp2_with (go_at_call 150; refine (fbi_any 151 #[] (enters_of Try.func151 (by kernel_rfl) rfl) strErr _ s _ HU.out hbig' (fun _ => True) (fun _ _ _ _ => trivial) trivial (fun k _ W _ => str1_any k W)).mono ?_; rintro e w2 ⟨rfl, hb2⟩)
    go_ret
    exact ⟨ret_int E.out.symm, below_tr (below_alloc1 _ _) hb2⟩
  · have E : Hid (strsErr l s = 10) := if_neg h2
    have h2' := lenb' h2
    clear h2
    go_enter Try.func117, Try.ntmps117
    go_wp2_with fail
    go_ret
    exact ⟨ret_int E.out.symm, below_alloc1 _ _⟩
set_option maxHeartbeats 400000 in
theorem rStrengthsErr_any (v u : Value) (l : Ln) (s : List Int) (w : World) (hs : Sl e3 3 w v l.ks) (hu : Sl e1 1 w u s) (hbig' : s.length ≤ 1000) :
    Calls Try.prog 53 #[.agg #[.int .i64 l.x, .int .i64 l.z, v], u] w fun e w' => e = .returned (.int .i64 (strsErr l s)) ∧ Below w.heap.size w w' := by
  obtain ⟨A, c, rfl, hcap⟩ := hs.form
  obtain ⟨A', c', rfl, hcap'⟩ := hu.form
  have HU := Lib.hid hu
  clear hs hu
  by_cases h2 : s.length = l.ks.length
  · have E : Hid (strsErr l s = (fb strErr (s.drop 0) 0).2) := if_pos h2
    have h2' := lenb h2
    clear h2
    go_enter Try.func53, Try.ntmps53
    go_wp2_with fail
    go_loopw [5] (fun i wr => ∃ k : Nat, k ≤ s.length ∧ i = .int .i64 k ∧ fb strErr (s.drop k) k = fb strErr (s.drop 0) 0 ∧ Below w.heap.size w wr) (fun i _ => s.length - (intOf i).toNat)
    case atStart => exact ⟨0, Nat.zero_le _, rfl, rfl, below_alloc1 _ _⟩
    case round =>
      obtain ⟨k, hk, rfl, hfb, hb⟩ := hrel
      have HF := Lib.hid hfb
      have HB := Lib.hid hb
      clear hfb
      by_cases hlt : k < s.length
      · obtain ⟨bb, off, rfl, hbl, hc0⟩ := (HU.out.below hb).at1 hlt
        have hd := fb_drop strErr s k hlt
        clear hb
        generalize s[k] = y at *
        cases hy : inB y 0 50000
        · rw [strErr_out hy, if_neg (by decide)] at hd
          have HD := Lib.hid hd
          clear hd
          go_wp2_with (go_at_call 27; refine (Within_any _ _ _ _).mono ?_; rintro e w' ⟨rfl, rfl⟩)
          go_ret
          exact ⟨ret_int (by rw [E.out, ← HF.out, HD.out]), HB.out⟩
        · rw [strErr_in hy, if_pos rfl] at hd
          have HD := Lib.hid hd
          clear hd
          go_wp2_with (go_at_call 27; refine (Within_any _ _ _ _).mono ?_; rintro e w' ⟨rfl, rfl⟩)
          go_roundw
          case rel => exact ⟨k + 1, by omega, by go_num, by rw [← HF.out, HD.out], HB.out⟩
          case measure => simp [intOf]; omega
      · clear hb
        obtain rfl : k = s.length := by omega
        go_wp2_with fail
        go_ret
        exact ⟨ret_int (by rw [E.out, ← HF.out, fb_end _ _ _ (Nat.le_refl _)]), HB.out⟩
  · have E : Hid (strsErr l s = 10) := if_neg h2
    have h2' := lenb' h2
    clear h2
    go_enter Try.func53, Try.ntmps53
    go_wp2_with fail
    go_ret
    exact ⟨ret_int E.out.symm, below_alloc1 _ _⟩

/-! ### membership -/
def hasL (xs : List Int) (n : Int) : Bool := xs.any fun x => decide (x = n)
theorem hasL_take (xs : List Int) (n : Int) (k : Nat) (h : k < xs.length) : hasL (xs.take (k + 1)) n = (hasL (xs.take k) n || decide (xs[k] = n)) := by
  unfold hasL
  rw [List.take_succ_eq_append_getElem h, List.any_append]
  simp
theorem hasL_found (xs : List Int) (n : Int) (k : Nat) (h : k < xs.length) (e : xs[k] = n) : hasL xs n = true := by
  unfold hasL
  exact List.any_eq_true.2 ⟨_, List.getElem_mem h, by simp [e]⟩
set_option maxHeartbeats 400000 in
theorem Has_any (v : Value) (xs : List Int) (n : Int) (w : World) (hs : Sl e1 1 w v xs) (hbig : xs.length ≤ 1000) :
    Calls Try.prog 56 #[v, .int .i64 n] w fun e w' => e = .returned (.bool (hasL xs n)) ∧ Below w.heap.size w w' := by
  obtain ⟨A, c, rfl, hcap⟩ := hs.form
  have HS := Lib.hid hs
  clear hs
  go_enter Try.func56, Try.ntmps56
  go_wp2_with fail
  go_loopw [5] (fun i wr => ∃ k : Nat, k ≤ xs.length ∧ i = .int .i64 k ∧ hasL (xs.take k) n = false ∧ Below w.heap.size w wr) (fun i _ => xs.length - (intOf i).toNat)
  case atStart => exact ⟨0, Nat.zero_le _, rfl, rfl, Below.refl _ _⟩
  case round =>
    obtain ⟨k, hk, rfl, hfb, hb⟩ := hrel
    have HF := Lib.hid hfb
    have HB := Lib.hid hb
    clear hfb
    by_cases hlt : k < xs.length
    · obtain ⟨bb, off, rfl, hbl, hc0⟩ := (HS.out.below hb).at1 hlt
      have HT := Lib.hid (hasL_take xs n k hlt)
      have HFO := Lib.hid (hasL_found xs n k hlt)
      clear hb
      generalize xs[k] = y at *
      by_cases hy : y = n
      · have HFO' := Lib.hid (HFO.out hy)
        clear HFO
        subst hy
        go_wp2_with fail
        go_ret
        exact ⟨ret_bool HFO'.out.symm, HB.out⟩
      · have hy' : (y == n) = false := by simpa using hy
        go_wp2_with fail
        go_roundw
        case rel => exact ⟨k + 1, by omega, by go_num, by rw [HT.out, HF.out]; simp [hy], HB.out⟩
        case measure => simp [intOf]; omega
    · clear hb
      obtain rfl : k = xs.length := by omega
      rw [List.take_of_length_le (Nat.le_refl _)] at HF
      go_wp2_with fail
      go_ret
      exact ⟨ret_bool HF.out.symm, HB.out⟩
end Go.Proofs.Ytghglgaimhfedaa

namespace Go.Proofs.Ytghglgaimhfedaa
open Go.RowKit Go.Shelf
attribute [local go_sem] monoUpon_value monoUpon_skip monoUpon_enter

/-- The indexes, below k, of tensions that are too great for their strengths. -/
def brokenK (ts : List (Int × Int)) (s : List Int) (k : Nat) : List Int := ((List.range k).filter fun i => decide (s.getD i 0 * s.getD i 0 < sq (ts.getD i (0, 0)))).map fun (i : Nat) => (i : Int)
theorem brokenK_succ (ts : List (Int × Int)) (s : List Int) (k : Nat) : brokenK ts s (k + 1) = if s.getD k 0 * s.getD k 0 < sq (ts.getD k (0, 0)) then brokenK ts s k ++ [(k : Int)] else brokenK ts s k := by
  unfold brokenK
  rw [List.range_succ, List.filter_append, List.map_append]
  by_cases h : s.getD k 0 * s.getD k 0 < sq (ts.getD k (0, 0))
  · have hd := decide_eq_true h
    rw [if_pos h]
    simp only [List.filter_cons, hd, List.filter_nil, if_true, List.map_cons, List.map_nil]
  · have hd := decide_eq_false h
    rw [if_neg h]
    simp only [List.filter_cons, hd, Bool.false_eq_true, if_false, List.filter_nil, List.map_nil, List.append_nil]
theorem brokenK_len (ts : List (Int × Int)) (s : List Int) (k : Nat) : (brokenK ts s k).length ≤ k := by
  unfold brokenK
  rw [List.length_map]
  exact Nat.le_trans (List.length_filter_le _ _) (by simp)
def brokenR (l : Ln) (c s : List Int) : List Int := brokenK (tens l c) s (tens l c).length
/-- The links that are broken, and the error. -/
def brokenIn (l : Ln) (c s : List Int) : List Int × Int := if currentsErr l c = 0 then (if strsErr l s = 0 then (brokenR l c s, 0) else ([], strsErr l s)) else ([], currentsErr l c)
set_option maxRecDepth 100000 in
set_option maxHeartbeats 1000000 in
theorem rBroken_any (v u x : Value) (l : Ln) (cu s : List Int) (w : World) (hs : Sl e3 3 w v l.ks) (hu : Sl e1 1 w u cu) (hx : Sl e1 1 w x s) (hl : LnOk l) (hc : CuOk l cu) (h1 : s.length = l.ks.length) (h2 : ∀ n ∈ s, 0 ≤ n ∧ n ≤ 50000) :
    Calls Try.prog 54 #[.agg #[.int .i64 l.x, .int .i64 l.z, v], u, x] w fun e w' => ∃ r, e = .returned r ∧ Ow e1 1 3 w.heap.size w' r (brokenR l cu s) ∧ Below w.heap.size w w' := by
  obtain ⟨i0, hi, hz0, hz1, hz2⟩ := info_parts intinfo
  have HT := Lib.hid (Tensions_any v u l cu _ (hs.alloc (.cells #[.int .i64 l.x, .int .i64 l.z, v] 26)) (hu.alloc (.cells #[.int .i64 l.x, .int .i64 l.z, v] 26)) hl hc)
  have HTX := Lib.hid (hx.alloc (.cells #[.int .i64 l.x, .int .i64 l.z, v] 26))
  obtain ⟨A, c, rfl, hcap⟩ := hs.form
  obtain ⟨A', c', rfl, hcap'⟩ := hu.form
  obtain ⟨A'', c'', rfl, hcap''⟩ := hx.form
  have hbd : ∀ t ∈ tens l cu, (-1000000 ≤ t.1 ∧ t.1 ≤ 1000000) ∧ (-1000000 ≤ t.2 ∧ t.2 ≤ 1000000) := fun t ht => by have := tens_bd hl hc t ht; omega
  have HLE := Lib.hid ((tens_len l cu hc.len).trans h1.symm)
  have hn1 : (tens l cu).length ≤ 10 := by rw [tens_len _ _ hc.len]; exact hl.n1
  have hn0 : 0 < (tens l cu).length := by rw [tens_len _ _ hc.len]; exact hl.n0
  have E : Hid (brokenR l cu s = brokenK (tens l cu) s (tens l cu).length) := rfl
  have HBD := Lib.hid hbd
  have HSB2 := Lib.hid h2
  clear hs hu hx hbd hl hc h1 h2 hcap hcap' hcap''
  rw [E.out]
  clear E
  generalize tens l cu = ts at *
  have HQ := Lib.hid (fun i (hi : i < ts.length) w => rSquare_any ts[i] w (HBD.out _ (List.getElem_mem hi)).1 (HBD.out _ (List.getElem_mem hi)).2)
  go_enter Try.func54, Try.ntmps54
  go_wp2_with (go_at_call 38; refine HT.out.mono ?_; rintro e w2 ⟨r, rfl, ho, hb2⟩; have HSB := Lib.hid (ho.sl e2_len); obtain ⟨Ab, ct, rfl, hct⟩ := HSB.out.form; obtain ⟨bt, ot, rfl, hbt, _⟩ := HSB.out.raw (k := 0) hn0; have HXB := Lib.hid (HTX.out.below hb2); have HB2 := Lib.hid (below_tr (below_alloc1 _ _) hb2); clear hb2 ho)
  go_loopw [7, 9] (fun r i wr => ∃ k : Nat, k ≤ ts.length ∧ i = .int .i64 k ∧ Ow e1 1 3 w2.heap.size wr r (brokenK ts s k) ∧ Below w2.heap.size w2 wr) (fun _ i _ => ts.length - (intOf i).toNat)
  case atStart => exact ⟨0, Nat.zero_le _, rfl, Ow.nil _ _ _ _ _, Below.refl _ _⟩
  case round =>
    obtain ⟨k, hk, rfl, hown, hb⟩ := hrel
    have HO := Lib.hid hown
    have HB := Lib.hid hb
    clear hown
    by_cases hlt : k < ts.length
    · have hlt2 : k < s.length := by rw [← HLE.out]; exact hlt
      have hsc := brokenK_succ ts s k
      rw [getD_eq ts k (0, 0) hlt, getD_eq s k 0 hlt2] at hsc
      obtain ⟨bx, ox, rfl, hbx, _⟩ := HXB.out.raw (k := k) hlt2
      have HXT := Lib.hid (fun W (h : Below w2.heap.size w2 W) => (HXB.out.below h).at1 (k := k) hlt2)
      have HST := Lib.hid (fun W (h : Below w2.heap.size w2 W) => (HSB.out.below h).at2 (k := k) hlt)
      have HK := Lib.hid (HQ.out k hlt)
      have hsn := HSB2.out s[k] (List.getElem_mem _)
      have hlen := brokenK_len ts s k
      have hks : (k : Int) < (s.length : Int) := by omega
      have hkt : (k : Int) < (ts.length : Int) := by omega
      have hk0 : (0 : Int) ≤ (k : Int) := by omega
      clear hb
      generalize ts[k] = t at *
      generalize s[k] = n at *
      have hm := mul_bd n n 50000 50000 (by omega) (by omega)
      have hw1 : IntKind.i64.wrap (n * n) = n * n := IntWalk.i64_in _ (by omega)
      obtain ⟨t1, t2⟩ := t
      simp only at *
      generalize sq (t1, t2) = q at *
      have HX : Hid (∀ W, Below wr.drew.heap.size wr.drew W → (W.cell? ⟨bt, ot + k * 2, none⟩ = some (.int .i64 t1) ∧ W.cell? ⟨bt, ot + k * 2 + 1, none⟩ = some (.int .i64 t2)) ∧ W.cell? ⟨bx, ox + k, none⟩ = some (.int .i64 n)) := by
        intro W hW
        have hb' : Below w2.heap.size w2 W := below_tr HB.out (Below.trans (Below.drew (Below.refl _ _)) hW)
        obtain ⟨b0, o0, e0, _, ca1, ca2⟩ := HST.out W hb'
        injection e0 with e0
        injection e0 with e01 e02
        subst e01; subst e02
        obtain ⟨b0, o0, e0, _, cb1⟩ := HXT.out W hb'
        injection e0 with e0
        injection e0 with e01 e02
        subst e01; subst e02
        exact ⟨⟨ca1, ca2⟩, cb1⟩
      go_wp2_with fail
      refine wp_region_mono 14 [19, 20, 21, 22, 23, 24, 25, 26, 27, 28, 29, 30, 31, 32] [[], [], [0, 1], [2], [3], [], [], [5, 6], [7], [], [], [9, 10], [11], [8, 12]] [fun v _ => v = .slice (some ⟨bt, ot, none⟩) ts.length ct, fun v _ => v = .int .i64 k, fun v _ => v = .pointer (some ⟨bt, ot + k * 2, none⟩), fun v _ => v = .agg #[.int .i64 t1, .int .i64 t2], fun v _ => v = .int .i64 q, fun v _ => v = .slice (some ⟨bx, ox, none⟩) s.length c'', fun v _ => v = .int .i64 k, fun v _ => v = .pointer (some ⟨bx, ox + k, none⟩), fun v _ => v = .int .i64 n, fun v _ => v = .slice (some ⟨bx, ox, none⟩) s.length c'', fun v _ => v = .int .i64 k, fun v _ => v = .pointer (some ⟨bx, ox + k, none⟩), fun v _ => v = .int .i64 n, fun v _ => v = .int .i64 (n * n)] (by kernel_rfl) (by kernel_rfl) ⟨st_eq _, st_eq _, st_eq _, st_eq _, st_eq _, st_eq _, st_eq _, st_eq _, st_eq _, st_eq _, st_eq _, st_eq _, st_eq _, st_eq _, trivial⟩ ?_ ?_
      · simp only [List.take_succ_cons, List.take_zero, steps, and_true]
        refine ⟨?_, ?_, ?_, ?_, ?_, ?_, ?_, ?_, ?_, ?_, ?_, ?_, ?_, ?_⟩
        · intro x W hB _; simp only [putX, setX, List.foldl_cons, List.foldl_nil]; refine ⟨?_⟩; go_simp; exact ⟨rfl, Below.refl _ _⟩
        · intro x W hB _; simp only [putX, setX, List.foldl_cons, List.foldl_nil]; refine ⟨?_⟩; go_simp; exact ⟨rfl, Below.refl _ _⟩
        · intro x W hB hN; simp only [needs, sAt, dAt] at hN; simp only [putX, setX, List.foldl_cons, List.foldl_nil]; refine ⟨?_⟩; go_simp; exact ⟨rfl, Below.refl _ _⟩
        · intro x W hB hN; simp only [needs, sAt, dAt] at hN; simp only [putX, setX, List.foldl_cons, List.foldl_nil]; obtain ⟨⟨c0, c1⟩, c2⟩ := HX.out W hB; refine ⟨?_⟩; go_simp; exact ⟨rfl, Below.refl _ _⟩
        · intro x W hB hN; simp only [needs, sAt, dAt] at hN; simp only [putX, setX, List.foldl_cons, List.foldl_nil]; refine ⟨?_⟩; go_simp; refine (HK.out _).mono ?_; rintro e w' ⟨rfl, hb⟩; exact ⟨_, rfl, rfl, hb⟩
        · intro x W hB _; simp only [putX, setX, List.foldl_cons, List.foldl_nil]; refine ⟨?_⟩; go_simp; exact ⟨rfl, Below.refl _ _⟩
        · intro x W hB _; simp only [putX, setX, List.foldl_cons, List.foldl_nil]; refine ⟨?_⟩; go_simp; exact ⟨rfl, Below.refl _ _⟩
        · intro x W hB hN; simp only [needs, sAt, dAt] at hN; simp only [putX, setX, List.foldl_cons, List.foldl_nil]; refine ⟨?_⟩; go_simp; exact ⟨rfl, Below.refl _ _⟩
        · intro x W hB hN; simp only [needs, sAt, dAt] at hN; simp only [putX, setX, List.foldl_cons, List.foldl_nil]; obtain ⟨⟨c0, c1⟩, c2⟩ := HX.out W hB; refine ⟨?_⟩; go_simp; exact ⟨rfl, Below.refl _ _⟩
        · intro x W hB _; simp only [putX, setX, List.foldl_cons, List.foldl_nil]; refine ⟨?_⟩; go_simp; exact ⟨rfl, Below.refl _ _⟩
        · intro x W hB _; simp only [putX, setX, List.foldl_cons, List.foldl_nil]; refine ⟨?_⟩; go_simp; exact ⟨rfl, Below.refl _ _⟩
        · intro x W hB hN; simp only [needs, sAt, dAt] at hN; simp only [putX, setX, List.foldl_cons, List.foldl_nil]; refine ⟨?_⟩; go_simp; exact ⟨rfl, Below.refl _ _⟩
        · intro x W hB hN; simp only [needs, sAt, dAt] at hN; simp only [putX, setX, List.foldl_cons, List.foldl_nil]; obtain ⟨⟨c0, c1⟩, c2⟩ := HX.out W hB; refine ⟨?_⟩; go_simp; exact ⟨rfl, Below.refl _ _⟩
        · intro x W hB hN; simp only [needs, sAt, dAt] at hN; simp only [putX, setX, List.foldl_cons, List.foldl_nil]; refine ⟨?_⟩; go_simp; exact ⟨rfl, Below.refl _ _⟩
      · intro y W hB hA
        simp only [allSp] at hA
        have q1 := hA.2.2.2.2.1
        have q2 := hA.2.2.2.2.2.2.2.2.2.2.2.2.2.1
        have hB' : Below wr.heap.size wr W := Below.trans (Below.drew (Below.refl _ _)) hB
        have HBW : Hid (Below w2.heap.size w2 W) := below_tr HB.out hB'
        have HOW := Lib.hid (HO.out.below hB')
        clear hA hB hB'
        simp only [putX, setX, List.foldl_cons, List.foldl_nil, List.drop_succ_cons, List.drop_zero, q1, q2, List.setIfInBounds_toArray, List.set_cons_succ, List.set_cons_zero]
        clear q1 q2
        have hwz := HBW.out.size
        by_cases hq : n * n < q
        · rw [if_pos hq] at hsc
          have HSC := Lib.hid hsc
          clear hsc
          have HO7 : Hid (World.ownsRow (W.alloc (.cells #[.int .i64 k] 3)) w2.heap.size 3 1 u7 (brokenK ts s k).length ((brokenK ts s k).flatMap e1)) := HOW.out.own.alloc _
          go_wp2_with (at_builtin; refine wpList_append_own _ rfl _ _ 36 rfl w2.heap.size 3 i0 _ 1 8 Try.underlying36 hi hz0 hz1 hz2 rfl (by decide) _ _ _ rfl HO7.out ⟨_, 0, none⟩ 1 1 (e1 k) rfl rfl (cells_new _ _ _) (e1_one _) (by simp only [maxLen]; omega) (by omega) (by simp; omega) ?_; intro v1 w6 hown1 hg1 _; have HO6 := Lib.hid hown1; have HG := Lib.hid hg1; clear hown1 hg1)
          go_roundw
          case rel => exact ⟨k + 1, by omega, by go_num, by rw [HSC.out]; exact Ow.snoc HO6.out, (HOW.out.alloc _).grown HG.out (below_al HBW.out _) (Nat.le_refl _)⟩
          case measure => simp [intOf]; omega
        · rw [if_neg hq] at hsc
          have HSC := Lib.hid hsc
          clear hsc
          go_wp2_with fail
          go_roundw
          case rel => exact ⟨k + 1, by omega, by go_num, by rw [HSC.out]; exact HOW.out, HBW.out⟩
          case measure => simp [intOf]; omega
    · clear hb
      obtain rfl : k = ts.length := by omega
      go_wp2_with fail
      go_ret
      exact ⟨_, rfl, HO.out.less HB2.out.size, below_tr HB2.out HB.out⟩
theorem ret_listI {q : List Int × Int} {k : List Int} {a : Int} {r : Value} {base : Nat} {w : World} (h : q = (k, a)) (ho : Ow e1 1 3 base w r k) :
    Ending.returned (.tuple #[r, .int .i64 a]) = .returned (.tuple #[r, .int .i64 q.2]) ∧ Ow e1 1 3 base w r q.1 := by rw [h]; exact ⟨rfl, ho⟩
set_option maxRecDepth 100000 in
set_option maxHeartbeats 1000000 in
theorem BrokenIn_any (v u x : Value) (l : Ln) (cu s : List Int) (w : World) (hs : Sl e3 3 w v l.ks) (hu : Sl e1 1 w u cu) (hx : Sl e1 1 w x s) (hbig : l.ks.length ≤ 1000) (hbig' : cu.length ≤ 1000) (hbig'' : s.length ≤ 1000) :
    Calls Try.prog 52 #[.agg #[.int .i64 l.x, .int .i64 l.z, v], u, x] w fun e w' => ∃ r, e = .returned (.tuple #[r, .int .i64 (brokenIn l cu s).2]) ∧ Ow e1 1 3 w.heap.size w' r (brokenIn l cu s).1 ∧ Below w.heap.size w w' := by
  obtain ⟨i0, hi, hz0, hz1, hz2⟩ := info_parts intinfo
  have HT := Lib.hid (TensionsOf_any v u l cu _ (hs.alloc (.cells #[.int .i64 l.x, .int .i64 l.z, v] 26)) (hu.alloc (.cells #[.int .i64 l.x, .int .i64 l.z, v] 26)) hbig hbig')
  have HTS := Lib.hid (hs.alloc (.cells #[.int .i64 l.x, .int .i64 l.z, v] 26))
  have HTX := Lib.hid (hx.alloc (.cells #[.int .i64 l.x, .int .i64 l.z, v] 26))
  have HSE := Lib.hid (fun w h1 h2 => strengthsError_any v x l s w h1 h2 hbig'')
  obtain ⟨A, c, rfl, hcap⟩ := hs.form
  obtain ⟨A', c', rfl, hcap'⟩ := hu.form
  obtain ⟨A'', c'', rfl, hcap''⟩ := hx.form
  clear hs hu hx hcap hcap' hcap''
  by_cases h1 : currentsErr l cu = 0
  · obtain ⟨hn0, hn1, hbd⟩ := tensions_small h1
    have hte : tensionsOf l cu = (tens l cu, 0) := (if_pos h1).trans (by rw [tensions_eq])
    rw [tensions_eq] at hn0 hn1 hbd
    rw [hte] at HT
    have hcl := (cursErr_cu (currentsErr_ok h1).2).len
    by_cases h2 : strsErr l s = 0
    · obtain ⟨h3, h4⟩ := strsErr_ok h2
      have E : Hid (brokenIn l cu s = (brokenK (tens l cu) s (tens l cu).length, 0)) := (if_pos h1).trans (if_pos h2)
      have HLE := Lib.hid ((tens_len l cu hcl).trans h3.symm)
      rw [h2] at HSE
      have HBD := Lib.hid hbd
      have HSB2 := Lib.hid h4
      clear h1 h2 h3 h4 hte hbd hcl
      generalize tens l cu = ts at *
      simp only at HT
      have HQ := Lib.hid (fun i (hi : i < ts.length) w => square_any ts[i] w (HBD.out _ (List.getElem_mem hi)).1 (HBD.out _ (List.getElem_mem hi)).2)
      go_enter Try.func52, Try.ntmps52
      go_wp2_with (first
        | (go_at_call 28; refine HT.out.mono ?_; rintro e w2 ⟨r, rfl, ho, hb2⟩; have HSB := Lib.hid (ho.sl e2_len); obtain ⟨Ab, ct, rfl, hct⟩ := HSB.out.form; obtain ⟨bt, ot, rfl, hbt, _⟩ := HSB.out.raw (k := 0) hn0; have HB2 := Lib.hid (below_tr (below_alloc1 _ _) hb2); have bx := fun j v hv => (At.new w #[.int .i64 l.x, .int .i64 l.z, .slice A l.ks.length c] 26 j v hv).below hb2; have A0 := (bx 0 _ rfl).1; have A1 := (bx 1 _ rfl).1; have A2 := (bx 2 _ rfl).1; have HBB := Lib.hid hb2; clear hb2 ho bx)
        | (go_at_call 117; refine (HSE.out _ (HTS.out.below HBB.out) (HTX.out.below HBB.out)).mono ?_; rintro e w3 ⟨rfl, hb3⟩; have HXB := Lib.hid ((HTX.out.below HBB.out).below hb3); have HS3 := Lib.hid (HSB.out.below hb3); have HB3 := Lib.hid (below_tr HB2.out hb3); clear hb3 A0 A1 A2))
      go_loopw [11, 12, 13, 31] (fun r _ _ i wr => ∃ k : Nat, k ≤ ts.length ∧ i = .int .i64 k ∧ Ow e1 1 3 w3.heap.size wr r (brokenK ts s k) ∧ Below w3.heap.size w3 wr) (fun _ _ _ i _ => ts.length - (intOf i).toNat)
      case atStart => exact ⟨0, Nat.zero_le _, rfl, Ow.nil _ _ _ _ _, Below.refl _ _⟩
      case round =>
        obtain ⟨k, hk, rfl, hown, hb⟩ := hrel
        have HO := Lib.hid hown
        have HB := Lib.hid hb
        clear hown
        by_cases hlt : k < ts.length
        · have hlt2 : k < s.length := by rw [← HLE.out]; exact hlt
          have hsc := brokenK_succ ts s k
          rw [getD_eq ts k (0, 0) hlt, getD_eq s k 0 hlt2] at hsc
          obtain ⟨bx, ox, rfl, hbx, _⟩ := HXB.out.raw (k := k) hlt2
          have HXT := Lib.hid (fun W (h : Below w3.heap.size w3 W) => (HXB.out.below h).at1 (k := k) hlt2)
          obtain ⟨b1, o1, e1', _, cb1, cb2⟩ := (HS3.out.below hb).at2 (k := k) hlt
          injection e1' with e1'
          injection e1' with e11 e12
          subst e11; subst e12
          have HK := Lib.hid (HQ.out k hlt)
          have hsn := HSB2.out s[k] (List.getElem_mem _)
          have hlen := brokenK_len ts s k
          have hks : (k : Int) < (s.length : Int) := by omega
          have hk0 : (0 : Int) ≤ (k : Int) := by omega
          clear hb
          generalize ts[k] = t at *
          generalize s[k] = n at *
          have hm := mul_bd n n 50000 50000 (by omega) (by omega)
          have hw1 : IntKind.i64.wrap (n * n) = n * n := IntWalk.i64_in _ (by omega)
          obtain ⟨t1, t2⟩ := t
          simp only at *
          generalize sq (t1, t2) = q at *
          go_wp2_with fail
          obtain ⟨W0, hW0⟩ : ∃ W0, W0 = wr.alloc (.cells #[.int .i64 t1, .int .i64 t2] 23) := ⟨_, rfl⟩
          rw [← hW0]
          have HX : Hid (∀ W, Below W0.drew.heap.size W0.drew W → (W.cell? ⟨wr.heap.size, 0, none⟩ = some (.int .i64 t1) ∧ W.cell? ⟨wr.heap.size, 1, none⟩ = some (.int .i64 t2)) ∧ W.cell? ⟨bx, ox + k, none⟩ = some (.int .i64 n) ∧ Below wr.heap.size wr W) := by
            intro W hW
            rw [hW0] at hW
            have hbw : Below wr.heap.size wr W := below_tr (below_alloc1 _ _) (Below.trans (Below.drew (Below.refl _ _)) hW)
            have nx := fun j v hv => (At.new wr #[.int .i64 t1, .int .i64 t2] 23 j v hv).drew.below hW
            obtain ⟨b0, o0, e0, _, cc1⟩ := HXT.out W (below_tr HB.out hbw)
            injection e0 with e0
            injection e0 with e01 e02
            subst e01; subst e02
            exact ⟨⟨(nx 0 _ rfl).1, (nx 1 _ rfl).1⟩, cc1, hbw⟩
          clear hW0 cb1 cb2
          refine wp_region_mono 11 [36, 37, 38, 39, 40, 41, 42, 43, 44, 45, 46] [[], [0], [], [], [2, 3], [4], [], [], [6, 7], [8], [5, 9]] [fun v _ => v = .agg #[.int .i64 t1, .int .i64 t2], fun v _ => v = .int .i64 q, fun v _ => v = .slice (some ⟨bx, ox, none⟩) s.length c'', fun v _ => v = .int .i64 k, fun v _ => v = .pointer (some ⟨bx, ox + k, none⟩), fun v _ => v = .int .i64 n, fun v _ => v = .slice (some ⟨bx, ox, none⟩) s.length c'', fun v _ => v = .int .i64 k, fun v _ => v = .pointer (some ⟨bx, ox + k, none⟩), fun v _ => v = .int .i64 n, fun v _ => v = .int .i64 (n * n)] (by kernel_rfl) (by kernel_rfl) ⟨st_eq _, st_eq _, st_eq _, st_eq _, st_eq _, st_eq _, st_eq _, st_eq _, st_eq _, st_eq _, st_eq _, trivial⟩ ?_ ?_
          · simp only [List.take_succ_cons, List.take_zero, steps, and_true]
            refine ⟨?_, ?_, ?_, ?_, ?_, ?_, ?_, ?_, ?_, ?_, ?_⟩
            · intro x W hB _; simp only [putX, setX, List.foldl_cons, List.foldl_nil]; obtain ⟨⟨c0, c1⟩, c2, _⟩ := HX.out W hB; refine ⟨?_⟩; go_simp; exact ⟨rfl, Below.refl _ _⟩
            · intro x W hB hN; simp only [needs, sAt, dAt] at hN; simp only [putX, setX, List.foldl_cons, List.foldl_nil]; refine ⟨?_⟩; go_simp; refine (HK.out _).mono ?_; rintro e w' ⟨rfl, hb⟩; exact ⟨_, rfl, rfl, hb⟩
            · intro x W hB _; simp only [putX, setX, List.foldl_cons, List.foldl_nil]; refine ⟨?_⟩; go_simp; exact ⟨rfl, Below.refl _ _⟩
            · intro x W hB _; simp only [putX, setX, List.foldl_cons, List.foldl_nil]; refine ⟨?_⟩; go_simp; exact ⟨rfl, Below.refl _ _⟩
            · intro x W hB hN; simp only [needs, sAt, dAt] at hN; simp only [putX, setX, List.foldl_cons, List.foldl_nil]; refine ⟨?_⟩; go_simp; exact ⟨rfl, Below.refl _ _⟩
            · intro x W hB hN; simp only [needs, sAt, dAt] at hN; simp only [putX, setX, List.foldl_cons, List.foldl_nil]; obtain ⟨⟨c0, c1⟩, c2, _⟩ := HX.out W hB; refine ⟨?_⟩; go_simp; exact ⟨rfl, Below.refl _ _⟩
            · intro x W hB _; simp only [putX, setX, List.foldl_cons, List.foldl_nil]; refine ⟨?_⟩; go_simp; exact ⟨rfl, Below.refl _ _⟩
            · intro x W hB _; simp only [putX, setX, List.foldl_cons, List.foldl_nil]; refine ⟨?_⟩; go_simp; exact ⟨rfl, Below.refl _ _⟩
            · intro x W hB hN; simp only [needs, sAt, dAt] at hN; simp only [putX, setX, List.foldl_cons, List.foldl_nil]; refine ⟨?_⟩; go_simp; exact ⟨rfl, Below.refl _ _⟩
            · intro x W hB hN; simp only [needs, sAt, dAt] at hN; simp only [putX, setX, List.foldl_cons, List.foldl_nil]; obtain ⟨⟨c0, c1⟩, c2, _⟩ := HX.out W hB; refine ⟨?_⟩; go_simp; exact ⟨rfl, Below.refl _ _⟩
            · intro x W hB hN; simp only [needs, sAt, dAt] at hN; simp only [putX, setX, List.foldl_cons, List.foldl_nil]; refine ⟨?_⟩; go_simp; exact ⟨rfl, Below.refl _ _⟩
          · intro y W hB hA
            simp only [allSp] at hA
            have q1 := hA.2.1
            have q2 := hA.2.2.2.2.2.2.2.2.2.2.1
            have hB' := (HX.out W hB).2.2
            have HBW : Hid (Below w3.heap.size w3 W) := below_tr HB.out hB'
            have HOW := Lib.hid (HO.out.below hB')
            clear hA hB hB'
            simp only [putX, setX, List.foldl_cons, List.foldl_nil, List.drop_succ_cons, List.drop_zero, q1, q2, List.setIfInBounds_toArray, List.set_cons_succ, List.set_cons_zero]
            clear q1 q2
            have hwz := HBW.out.size
            by_cases hq : n * n < q
            · rw [if_pos hq] at hsc
              have HSC := Lib.hid hsc
              clear hsc
              have HO7 : Hid (World.ownsRow (W.alloc (.cells #[.int .i64 k] 3)) w3.heap.size 3 1 u11 (brokenK ts s k).length ((brokenK ts s k).flatMap e1)) := HOW.out.own.alloc _
              go_wp2_with (at_builtin; refine wpList_append_own _ rfl _ _ 36 rfl w3.heap.size 3 i0 _ 1 8 Try.underlying36 hi hz0 hz1 hz2 rfl (by decide) _ _ _ rfl HO7.out ⟨_, 0, none⟩ 1 1 (e1 k) rfl rfl (cells_new _ _ _) (e1_one _) (by simp only [maxLen]; omega) (by omega) (by simp; omega) ?_; intro v1 w6 hown1 hg1 _; have HO6 := Lib.hid hown1; have HG := Lib.hid hg1; clear hown1 hg1)
              go_roundw
              case rel => exact ⟨k + 1, by omega, by go_num, by rw [HSC.out]; exact Ow.snoc HO6.out, (HOW.out.alloc _).grown HG.out (below_al HBW.out _) (Nat.le_refl _)⟩
              case measure => simp [intOf]; omega
            · rw [if_neg hq] at hsc
              have HSC := Lib.hid hsc
              clear hsc
              go_wp2_with fail
              go_roundw
              case rel => exact ⟨k + 1, by omega, by go_num, by rw [HSC.out]; exact HOW.out, HBW.out⟩
              case measure => simp [intOf]; omega
        · clear hb
          obtain rfl : k = ts.length := by omega
          go_wp2_with fail
          go_ret2
          exact ⟨_, (ret_listI E.out (HO.out.less HB3.out.size)).1, (ret_listI E.out (HO.out.less HB3.out.size)).2, below_tr HB3.out HB.out⟩
    · have E : Hid (brokenIn l cu s = ([], strsErr l s)) := (if_pos h1).trans (if_neg h2)
      have h2' := ne1 h2
      clear h1 h2 hte hbd hcl
      generalize strsErr l s = pe at *
      generalize tens l cu = ts at *
      simp only at HT
      go_enter Try.func52, Try.ntmps52
      go_wp2_with (first
        | (go_at_call 28; refine HT.out.mono ?_; rintro e w2 ⟨r, rfl, ho, hb2⟩; have HB2 := Lib.hid (below_tr (below_alloc1 _ _) hb2); have bx := fun j v hv => (At.new w #[.int .i64 l.x, .int .i64 l.z, .slice A l.ks.length c] 26 j v hv).below hb2; have A0 := (bx 0 _ rfl).1; have A1 := (bx 1 _ rfl).1; have A2 := (bx 2 _ rfl).1; have HBB := Lib.hid hb2; clear hb2 ho bx)
        | (go_at_call 117; refine (HSE.out _ (HTS.out.below HBB.out) (HTX.out.below HBB.out)).mono ?_; rintro e w3 ⟨rfl, hb3⟩; have HB3 := Lib.hid (below_tr HB2.out hb3); clear hb3 A0 A1 A2))
      go_ret2
      exact ⟨_, (ret_listI E.out (Ow.nil _ _ _ w.heap.size w)).1, (ret_listI E.out (Ow.nil _ _ _ w.heap.size _)).2, HB3.out⟩
  · have E : Hid (brokenIn l cu s = ([], currentsErr l cu)) := if_neg h1
    have hte : tensionsOf l cu = ([], currentsErr l cu) := if_neg h1
    rw [hte] at HT
    have h1' := ne1 h1
    generalize currentsErr l cu = pe at *
    simp only at HT
    clear h1 hte
    go_enter Try.func52, Try.ntmps52
    go_wp2_with (go_at_call 28; refine HT.out.mono ?_; rintro e w2 ⟨r, rfl, ho, hb2⟩)
    go_ret2
    exact ⟨_, (ret_listI E.out (Ow.nil _ _ _ w.heap.size w)).1, (ret_listI E.out (Ow.nil _ _ _ w.heap.size _)).2, below_tr (below_alloc1 _ _) hb2⟩
end Go.Proofs.Ytghglgaimhfedaa

namespace Go.Proofs.Ytghglgaimhfedaa
open Go.RowKit Go.Shelf

/-- The root bit by bit: j bits are left, r is what has been found. -/
def rootJ (n : Int) : Nat → Int → Int
  | 0, r => r
  | j + 1, r => if (r + 2 ^ j) * (r + 2 ^ j) ≤ n then rootJ n j (r + 2 ^ j) else rootJ n j r
def isqrt (n : Int) : Int := rootJ n 31 0
def isqrtUp (n : Int) : Int := if isqrt n * isqrt n < n then isqrt n + 1 else isqrt n
theorem pow_pos2 (j : Nat) : (0 : Int) < 2 ^ j := Int.pow_pos (by decide)
theorem rootJ_spec (n : Int) : ∀ (j : Nat) (r : Int), 0 ≤ r → r * r ≤ n → n < (r + 2 ^ j) * (r + 2 ^ j) → 0 ≤ rootJ n j r ∧ rootJ n j r * rootJ n j r ≤ n ∧ n < (rootJ n j r + 1) * (rootJ n j r + 1)
  | 0, r, h0, h1, h2 => by simp only [rootJ]; refine ⟨h0, h1, by simpa using h2⟩
  | j + 1, r, h0, h1, h2 => by
    have hp := pow_pos2 j
    simp only [rootJ]
    split
    · rename_i h
      refine rootJ_spec n j _ (by omega) h ?_
      rw [Int.add_assoc, show (2 : Int) ^ j + 2 ^ j = 2 ^ (j + 1) by rw [Int.pow_succ]; omega]
      exact h2
    · exact rootJ_spec n j r h0 h1 (by omega)
theorem isqrt_spec {n : Int} (h0 : 0 ≤ n) (h1 : n < 2 ^ 62) : 0 ≤ isqrt n ∧ isqrt n * isqrt n ≤ n ∧ n < (isqrt n + 1) * (isqrt n + 1) :=
  rootJ_spec n 31 0 (Int.le_refl _) (by omega) (by simp only [Int.zero_add]; rw [show (2 : Int) ^ 31 * 2 ^ 31 = 2 ^ 62 by decide]; exact h1)
theorem isqrt_bd {n : Int} (h0 : 0 ≤ n) (h1 : n < 2 ^ 62) : isqrt n < 2 ^ 31 := by
  obtain ⟨a, b, _⟩ := isqrt_spec h0 h1
  rcases Int.lt_or_le (isqrt n) (2 ^ 31) with h | h
  · exact h
  · have h2 : (2 ^ 31 : Int) * 2 ^ 31 ≤ isqrt n * isqrt n := Int.mul_le_mul h h (by decide) a
    have h3 : (2 : Int) ^ 31 * 2 ^ 31 = 2 ^ 62 := by decide
    omega
/-- The root rounded up: its square is at least the number, and it is no greater than any number of which that holds. -/
theorem isqrtUp_spec {n : Int} (h0 : 0 ≤ n) (h1 : n < 2 ^ 62) : 0 ≤ isqrtUp n ∧ n ≤ isqrtUp n * isqrtUp n ∧ isqrtUp n ≤ isqrt n + 1 := by
  obtain ⟨a, b, c⟩ := isqrt_spec h0 h1
  unfold isqrtUp
  split
  · exact ⟨by omega, by omega, by omega⟩
  · exact ⟨a, by omega, by omega⟩
/-- The bit that is tried when j bits are left. -/
def bitJ : Nat → Int
  | 0 => 0
  | j + 1 => 2 ^ j
theorem bitJ_half (j : Nat) : (bitJ (j + 1)).tdiv 2 = bitJ j := by
  cases j with
  | zero => decide
  | succ j =>
    simp only [bitJ]
    rw [Int.pow_succ, Int.tdiv_eq_ediv_of_nonneg (by have := pow_pos2 j; omega)]
    omega
theorem bitJ_le : ∀ j, j ≤ 31 → bitJ j ≤ 1073741824
  | 0, _ => by decide
  | j + 1, h => by
    simp only [bitJ]
    have : (2 : Int) ^ j ≤ 2 ^ 30 := by
      have h1 : 2 ^ j ≤ 2 ^ 30 := Nat.pow_le_pow_right (by decide) (by omega)
      exact_mod_cast h1
    have h2 : (2 : Int) ^ 30 = 1073741824 := by decide
    omega
theorem bitJ_nn : ∀ j, 0 ≤ bitJ j
  | 0 => by decide
  | j + 1 => by simp only [bitJ]; have := pow_pos2 j; omega
set_option maxRecDepth 100000 in
set_option maxHeartbeats 1000000 in
theorem Root_any (n : Int) (w : World) (h0 : 0 ≤ n) (h1 : n < 4611686018427387904) :
    Calls Try.prog 118 #[.int .i64 n] w fun e w' => e = .returned (.int .i64 (isqrt n)) ∧ w = w' := by
  go_enter Try.func118, Try.ntmps118
  go_wp2_with fail
  go_loopg [3, 4] 31 (fun g r bit wr => ∃ (j : Nat) (q : Int), g = j ∧ j ≤ 31 ∧ r = .int .i64 q ∧ bit = .int .i64 (bitJ j) ∧ rootJ n j q = isqrt n ∧ 0 ≤ q ∧ q + 2 ^ j ≤ 2147483648 ∧ w = wr)
  case atStart => exact ⟨31, 0, rfl, Nat.le_refl _, rfl, rfl, rfl, Int.le_refl _, by decide, by trivial⟩
  case round =>
    obtain ⟨j, q, hgj, hj, rfl, rfl, hroot, hq0, hq1, rfl⟩ := hrel
    have hgj' := hgj.symm
    subst hgj'
    have HR := Lib.hid hroot
    clear hroot
    cases j with
    | zero =>
      have hb : bitJ 0 = 0 := rfl
      rw [hb]
      go_wp2_with fail
      go_ret
      exact ⟨ret_int HR.out, by trivial⟩
    | succ j =>
      have hp := pow_pos2 j
      have hhalf := bitJ_half j
      have hb : bitJ (j + 1) = 2 ^ j := rfl
      have hpp : (2 : Int) ^ (j + 1) = 2 ^ j + 2 ^ j := by rw [Int.pow_succ]; omega
      rw [hpp] at hq1
      have HHALF := Lib.hid hhalf
      have HSTEP : Hid (rootJ n (j + 1) q = if (q + 2 ^ j) * (q + 2 ^ j) ≤ n then rootJ n j (q + 2 ^ j) else rootJ n j q) := rfl
      have HB := Lib.hid hb
      rw [hb] at hhalf ⊢
      clear hb hpp
      generalize hbt : (2 : Int) ^ j = bt at *
      have HBT := Lib.hid hbt
      clear hbt
      have hm := mul_bd (q + bt) (q + bt) 2147483648 2147483648 (by omega) (by omega)
      have hw1 : IntKind.i64.wrap (q + bt) = q + bt := IntWalk.i64_in _ (by omega)
      have hw2 : IntKind.i64.wrap ((q + bt) * (q + bt)) = (q + bt) * (q + bt) := IntWalk.i64_in _ (by omega)
      have hbn := bitJ_nn j
      have hbl := bitJ_le j (by omega)
      have hw3 : IntKind.i64.wrap (bitJ j) = bitJ j := IntWalk.i64_in _ (by omega)
      by_cases hle : (q + bt) * (q + bt) ≤ n
      · go_wp2_with fail
        go_roundg j
        case measure => omega
        case rel => exact ⟨j, q + bt, rfl, by omega, rfl, by first | rfl | rw [hhalf], by rw [← HR.out, HSTEP.out, if_pos hle], by omega, by rw [HBT.out]; omega, by trivial⟩
      · go_wp2_with fail
        go_roundg j
        case measure => omega
        case rel => exact ⟨j, q, rfl, by omega, rfl, by first | rfl | rw [hhalf], by rw [← HR.out, HSTEP.out, if_neg (by omega)], by omega, by rw [HBT.out]; omega, by trivial⟩
set_option maxRecDepth 100000 in
set_option maxHeartbeats 400000 in
theorem RootUp_any (n : Int) (w : World) (h0 : 0 ≤ n) (h1 : n < 4611686018427387904) :
    Calls Try.prog 55 #[.int .i64 n] w fun e w' => e = .returned (.int .i64 (isqrtUp n)) ∧ w = w' := by
  have HR := Lib.hid (fun w => Root_any n w h0 h1)
  obtain ⟨a, b, _⟩ := isqrt_spec h0 (by omega)
  have hbd := isqrt_bd h0 (by omega)
  have hm := mul_bd (isqrt n) (isqrt n) 2147483648 2147483648 (by omega) (by omega)
  by_cases h : isqrt n * isqrt n < n
  · have E : Hid (isqrtUp n = isqrt n + 1) := if_pos h
    generalize isqrt n = r at *
    have hw1 : IntKind.i64.wrap (r * r) = r * r := IntWalk.i64_in _ (by omega)
    have hw2 : IntKind.i64.wrap (r + 1) = r + 1 := IntWalk.i64_in _ (by omega)
    go_enter Try.func55, Try.ntmps55
    go_wp2_with (go_at_call 118; refine (HR.out _).mono ?_; rintro e w' ⟨rfl, rfl⟩)
    go_ret
    exact ⟨ret_int E.out.symm, by trivial⟩
  · have E : Hid (isqrtUp n = isqrt n) := if_neg h
    generalize isqrt n = r at *
    have hw1 : IntKind.i64.wrap (r * r) = r * r := IntWalk.i64_in _ (by omega)
    go_enter Try.func55, Try.ntmps55
    go_wp2_with (go_at_call 118; refine (HR.out _).mono ?_; rintro e w' ⟨rfl, rfl⟩)
    go_ret
    exact ⟨ret_int E.out.symm, by trivial⟩
end Go.Proofs.Ytghglgaimhfedaa

namespace Go.Proofs.Ytghglgaimhfedaa
open Go.RowKit Go.Shelf

section
variable {P : Program}
theorem wpList_append_at (w : World) {ops : Array Oper} {rest : List Oper} {o : Oper} {a : Act} {Q : Exit → Act → World → Prop} (hgd : o.guard = none) (s x : Operand) (t : TypeId)
    (ho : o.op = .call { callee := .builtin .append, args := #[s, x], argTypes := #[t, t] })
    (base : Nat) (e : TypeId) (i : TypeInfo) (z : Value) (size bytes : Nat) (ht : P.underlying t = some (.slice e)) (hi : P.info? e = some i) (hz : i.zero = some z)
    (hsize : i.size = size) (hby : i.bytes = bytes) (hzs : z.cells.size = size) (hsz : 0 < size)
    (v : Value) (n : Nat) (xs : List Value) (hs : a.eval s = v) (hown : w.ownsRow base e size v n xs)
    (ad : Addr) (m c : Nat) (news : List Value) (hx : a.eval x = .slice (some ad) m c) (hl : news.length = m * size) (hnews : ∀ j u, news[j]? = some u → w.cell? (ad.add j) = some u) (h1 : ∀ u ∈ news, u.oneCell' = true)
    (h63 : n + m ≤ maxLen) (hbytes : (n + m) * bytes ≤ 140737488355328) (hbase : base ≤ w.heap.size)
    (h : ∀ v' w', w'.ownsRow base e size v' (n + m) (xs ++ news) → w.grownBy w' v.ownBlock → (v'.ownBlock = v.ownBlock ∨ v'.ownBlock = some w.heap.size) → wpList P ops Q rest (a.put o.dst v') w') : wpList P ops Q (o :: rest) a w :=
  wpList_plain hgd fun _ hK => by
    obtain ⟨v', w', hr, h2, h3, _, h5⟩ := run_append_own_at (P := P) w base t o.type e i z size bytes ht hi hz hsize hby hzs hsz v n xs hown ad m c news hl hnews h1 h63 hbytes hbase
    unfold Oper.wp execOp
    simp only [ho, resolve, invoke, builtin, Sem.run_bind, Sem.run_pure, Result.andThen_ok, List.map_toArray, List.map_cons, List.map_nil, hs, hx, hr]
    exact hK _ _ (h v' w' h2 h3 h5)
end
/-- Two rows lie apart. -/
def Apart (v u : Value) : Prop := ∀ b, v.ownBlock = some b → u.ownBlock ≠ some b
theorem Apart.symm {v u : Value} (h : Apart v u) : Apart u v := fun b hb hv => h b hv hb
theorem Ow.beside {α : Type} {enc : α → List Value} {s : Nat} {e : TypeId} {base : Nat} {w w' : World} {v u : Value} {xs : List α} (h : Ow enc s e base w v xs) (ha : Apart v u) (hg : w.grownBy w' u.ownBlock) : Ow enc s e base w' v xs :=
  World.ownsRow.kept h hg (by
    cases hv : v.ownBlock with
    | none => exact .inl rfl
    | some b => exact .inr fun hh => ha b hv hh.symm)
theorem Apart.grown {α : Type} {enc : α → List Value} {s : Nat} {e : TypeId} {base : Nat} {w : World} {v u v' : Value} {xs : List α} (h : Apart v u) (ho : Ow enc s e base w u xs) {n : Nat} (hn : w.heap.size ≤ n) (hb : v'.ownBlock = v.ownBlock ∨ v'.ownBlock = some n) : Apart v' u := by
  intro b hb' hu
  rcases hb with e' | e'
  · exact h b (e' ▸ hb') hu
  · rw [e'] at hb'
    injection hb' with hb'
    have := (World.ownsRow.lt ho b hu).2
    omega

/-! ### the strongest link -/
theorem strongK_max (ts : List (Int × Int)) : ∀ (k i : Nat), i < k → sq (ts.getD i (0, 0)) ≤ sq (ts.getD (strongK ts k) (0, 0))
  | 0, i, h => by omega
  | k + 1, i, h => by
    rw [strongK_succ]
    split
    · rename_i hlt
      by_cases e : i = k
      · subst e; exact Int.le_refl _
      · have := strongK_max ts k i (by omega)
        omega
    · rename_i hge
      by_cases e : i = k
      · subst e; omega
      · exact strongK_max ts k i (by omega)
theorem sq_bd2 {t : Int × Int} (h1 : -20000 ≤ t.1 ∧ t.1 ≤ 20000) (h2 : -20000 ≤ t.2 ∧ t.2 ≤ 20000) : 0 ≤ sq t ∧ sq t ≤ 800000000 := by
  have e : sq t = t.1 * t.1 + t.2 * t.2 := rfl
  have m1 := mul_bd t.1 t.1 20000 20000 h1 h1
  have m2 := mul_bd t.2 t.2 20000 20000 h2 h2
  have p1 : 0 ≤ t.1 * t.1 := by
    rcases Int.le_total 0 t.1 with h | h
    · exact Int.mul_nonneg h h
    · exact Int.mul_nonneg_of_nonpos_of_nonpos h h
  have p2 : 0 ≤ t.2 * t.2 := by
    rcases Int.le_total 0 t.2 with h | h
    · exact Int.mul_nonneg h h
    · exact Int.mul_nonneg_of_nonpos_of_nonpos h h
  omega
theorem isqrtUp_bd {n : Int} (h0 : 0 ≤ n) (h1 : n ≤ 800000000) : 0 ≤ isqrtUp n ∧ isqrtUp n ≤ 50000 ∧ n ≤ isqrtUp n * isqrtUp n := by
  have h62 : n < 2 ^ 62 := by have : (2 : Int) ^ 62 = 4611686018427387904 := by decide
                              omega
  obtain ⟨a, b, c⟩ := isqrtUp_spec h0 h62
  obtain ⟨d, e, _⟩ := isqrt_spec h0 h62
  have : isqrt n < 30000 := by
    rcases Int.lt_or_le (isqrt n) 30000 with h | h
    · exact h
    · have h2 : (30000 : Int) * 30000 ≤ isqrt n * isqrt n := Int.mul_le_mul h h (by decide) d
      omega
  exact ⟨a, by omega, b⟩

/-! ### greater strengths -/
def moreK (s : List Int) (k : Nat) : List Int := (List.range k).map fun (i : Nat) => min 50000 (s.getD i 0 + (i : Int))
theorem moreK_succ (s : List Int) (k : Nat) : moreK s (k + 1) = moreK s k ++ [min 50000 (s.getD k 0 + (k : Int))] := by
  unfold moreK
  rw [List.range_succ, List.map_append]
  rfl
theorem moreK_len (s : List Int) (k : Nat) : (moreK s k).length = k := by simp [moreK]
theorem moreK_getD (s : List Int) (k i : Nat) (h : i < k) : (moreK s k).getD i 0 = min 50000 (s.getD i 0 + (i : Int)) := by
  unfold moreK
  rw [getD_eq _ _ _ (by simpa using h)]
  simp
theorem getD_in' (s : List Int) (h : ∀ n ∈ s, 0 ≤ n ∧ n ≤ 50000) (i : Nat) : 0 ≤ s.getD i 0 ∧ s.getD i 0 ≤ 50000 := by
  rcases Nat.lt_or_ge i s.length with hi | hi
  · rw [getD_eq _ _ _ hi]; exact h _ (List.getElem_mem hi)
  · have e : s.getD i 0 = 0 := by rw [List.getD_eq_getElem?_getD, List.getElem?_eq_none hi]; rfl
    rw [e]; decide
theorem moreK_in (s : List Int) (h : ∀ n ∈ s, 0 ≤ n ∧ n ≤ 50000) (k : Nat) : ∀ n ∈ moreK s k, 0 ≤ n ∧ n ≤ 50000 := by
  intro n hn
  unfold moreK at hn
  obtain ⟨i, _, rfl⟩ := List.mem_map.1 hn
  have := getD_in' s h i
  omega
theorem mem_brokenK {ts : List (Int × Int)} {s : List Int} {k : Nat} {n : Int} : n ∈ brokenK ts s k ↔ ∃ i : Nat, i < k ∧ s.getD i 0 * s.getD i 0 < sq (ts.getD i (0, 0)) ∧ (i : Int) = n := by
  unfold brokenK
  simp only [List.mem_map, List.mem_filter, List.mem_range, decide_eq_true_eq]
  constructor
  · rintro ⟨i, ⟨h1, h2⟩, h3⟩; exact ⟨i, h1, h2, h3⟩
  · rintro ⟨i, h1, h2, h3⟩; exact ⟨i, ⟨h1, h2⟩, h3⟩
theorem brokenK_fewer (ts : List (Int × Int)) (s : List Int) (h : ∀ n ∈ s, 0 ≤ n ∧ n ≤ 50000) (k : Nat) : ∀ n ∈ brokenK ts (moreK s k) k, n ∈ brokenK ts s k := by
  intro n hn
  obtain ⟨i, h1, h2, h3⟩ := mem_brokenK.1 hn
  refine mem_brokenK.2 ⟨i, h1, ?_, h3⟩
  rw [moreK_getD _ _ _ h1] at h2
  have hb := getD_in' s h i
  have hle : s.getD i 0 ≤ min 50000 (s.getD i 0 + (i : Int)) := by omega
  have := Int.mul_le_mul hle hle hb.1 (by omega)
  omega
theorem brokenK_none (ts : List (Int × Int)) (ru n : Int) (k : Nat) (h : ∀ i, i < k → sq (ts.getD i (0, 0)) ≤ n) (hn : n ≤ ru * ru) : brokenK ts (List.replicate k ru) k = [] := by
  apply List.eq_nil_iff_forall_not_mem.2
  intro x hx
  obtain ⟨i, h1, h2, _⟩ := mem_brokenK.1 hx
  rw [getD_eq _ _ _ (by simpa using h1), List.getElem_replicate] at h2
  have := h i h1
  omega
theorem hasL_of {xs : List Int} {n : Int} (h : n ∈ xs) : hasL xs n = true := List.any_eq_true.2 ⟨n, h, by simp⟩
theorem replicate_snoc (k : Nat) (n : Int) : List.replicate (k + 1) n = List.replicate k n ++ [n] := List.replicate_succ'
end Go.Proofs.Ytghglgaimhfedaa
