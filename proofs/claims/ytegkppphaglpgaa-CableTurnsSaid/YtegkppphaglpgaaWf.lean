/-
  Walks of chapter 1: the generic function that finds the first item with an error, at each of its instances, whatever closure it is given.
-/
import Derived.Test.YtegkppphaglpgaaWt
import Derived.Test.YtegkppphaglpgaaKr
namespace Go.Proofs.Ytegkppphaglpgaa
open Go.RowKit

theorem fb_pair {a b c d : Int} {p q : Int × Int} (h : p = q) (h1 : p = (a, b)) (h2 : q = (c, d)) : Ending.returned (.tuple #[.int .i64 a, .int .i64 b]) = .returned (.tuple #[.int .i64 c, .int .i64 d]) := by
  rw [h, h2] at h1; cases h1; rfl
set_option maxHeartbeats 1000000 in
theorem fb2_any (K : FuncId) (caps : Array Value) (eg : ∀ (args : Array Value) (w : World), (callFunc K args).run Try.prog w = .ok (.enter K args) w) (err : Int × Int → Int) (v : Value) (xs : List (Int × Int)) (w : World) (hs : Sl e2 2 w v xs) (hn : xs.length ≤ 1000)
    (Inv : World → Prop) (hInv : ∀ W W', Inv W → Below W.heap.size W W' → Inv W') (h0 : Inv w)
    (hcl : ∀ x ∈ xs, ∀ W, Inv W → Calls Try.prog K (#[.agg #[.int .i64 x.1, .int .i64 x.2]] ++ caps) W fun e W' => e = .returned (.int .i64 (err x)) ∧ Below W.heap.size W W') :
    Calls Try.prog 130 #[v, .func (.func K) #[] caps] w fun e w' => e = .returned (.tuple #[.int .i64 (fb err xs 0).1, .int .i64 (fb err xs 0).2]) ∧ Below w.heap.size w w' := by
  obtain ⟨A, c, rfl, hcap⟩ := hs.form
  have HI := Lib.hid hInv
  have HC := Lib.hid hcl
  have HS := Lib.hid hs
  clear hInv hcl hs
  go_enter Try.func130, Try.ntmps130
  go_wp2_with fail
  go_loopw [6, 7, 8, 11] (fun _ _ _ i wr => ∃ k : Nat, k ≤ xs.length ∧ i = .int .i64 k ∧ fb err (xs.drop k) k = fb err xs 0 ∧ Inv wr ∧ Below w.heap.size w wr) (fun _ _ _ i _ => xs.length - (intOf i).toNat)
  case atStart => exact ⟨0, Nat.zero_le _, rfl, rfl, h0, Below.refl _ _⟩
  case round =>
    obtain ⟨k, hk, rfl, hfb, hi, hb⟩ := hrel
    have HF := Lib.hid hfb
    have HB := Lib.hid hb
    clear hfb
    by_cases hlt : k < xs.length
    · obtain ⟨b, off, rfl, hbl, hc0, hc1⟩ := (HS.out.below hb).at2 hlt
      have hk0 := HC.out xs[k] (List.getElem_mem _)
      have HK := Lib.hid hk0
      have hf := fb_drop err xs k hlt
      have HD := Lib.hid hf
      clear hk0 hf hb
      by_cases he : err xs[k] = 0
      · have he' : (err xs[k] != 0) = false := by rw [bne_eq_false_iff_eq]; exact he
        generalize err xs[k] = er at *
        go_wp2_with (refine (HK.out _ (HI.out _ _ hi (below_alloc1 _ _))).mono ?_; rintro e w1 ⟨rfl, hb1⟩)
        go_roundw
        case rel => exact ⟨k + 1, by omega, by go_num, by rw [← HF.out, HD.out, if_pos he], HI.out _ _ hi (below_tr (below_alloc1 _ _) hb1), below_tr (below_al HB.out _) hb1⟩
        case measure => simp [intOf]; omega
      · have he' : (err xs[k] != 0) = true := by rw [bne_iff_ne]; exact he
        generalize err xs[k] = er at *
        go_wp2_with (refine (HK.out _ (HI.out _ _ hi (below_alloc1 _ _))).mono ?_; rintro e w1 ⟨rfl, hb1⟩)
        go_ret2
        exact ⟨by rw [← HF.out, HD.out, if_neg he]; rfl, below_tr (below_al HB.out _) hb1⟩
    · clear hb
      obtain rfl : k = xs.length := by omega
      go_wp2
      go_ret2
      exact ⟨by rw [← HF.out, fb_end _ _ _ (Nat.le_refl _)]; rfl, HB.out⟩
set_option maxHeartbeats 1000000 in
theorem fbr_any (K : FuncId) (caps : Array Value) (eg : ∀ (args : Array Value) (w : World), (callFunc K args).run Try.prog w = .ok (.enter K args) w) (err : Int × Int → Int) (v : Value) (xs : List (Int × Int)) (w : World) (hs : Sl e2 2 w v xs) (hn : xs.length ≤ 1000)
    (Inv : World → Prop) (hInv : ∀ W W', Inv W → Below W.heap.size W W' → Inv W') (h0 : Inv w)
    (hcl : ∀ x ∈ xs, ∀ W, Inv W → Calls Try.prog K (#[.agg #[.int .i64 x.1, .int .i64 x.2]] ++ caps) W fun e W' => e = .returned (.int .i64 (err x)) ∧ Below W.heap.size W W') :
    Calls Try.prog 91 #[v, .func (.func K) #[] caps] w fun e w' => e = .returned (.tuple #[.int .i64 (fb err xs 0).1, .int .i64 (fb err xs 0).2]) ∧ Below w.heap.size w w' := by
  obtain ⟨A, c, rfl, hcap⟩ := hs.form
  have HI := Lib.hid hInv
  have HC := Lib.hid hcl
  have HS := Lib.hid hs
  clear hInv hcl hs
  go_enter Try.func91, Try.ntmps91
  go_wp2_with fail
  go_loopw [6, 7, 8, 11] (fun _ _ _ i wr => ∃ k : Nat, k ≤ xs.length ∧ i = .int .i64 k ∧ fb err (xs.drop k) k = fb err xs 0 ∧ Inv wr ∧ Below w.heap.size w wr) (fun _ _ _ i _ => xs.length - (intOf i).toNat)
  case atStart => exact ⟨0, Nat.zero_le _, rfl, rfl, h0, Below.refl _ _⟩
  case round =>
    obtain ⟨k, hk, rfl, hfb, hi, hb⟩ := hrel
    have HF := Lib.hid hfb
    have HB := Lib.hid hb
    clear hfb
    by_cases hlt : k < xs.length
    · obtain ⟨b, off, rfl, hbl, hc0, hc1⟩ := (HS.out.below hb).at2 hlt
      have hk0 := HC.out xs[k] (List.getElem_mem _)
      have HK := Lib.hid hk0
      have hf := fb_drop err xs k hlt
      have HD := Lib.hid hf
      clear hk0 hf hb
      by_cases he : err xs[k] = 0
      · have he' : (err xs[k] != 0) = false := by rw [bne_eq_false_iff_eq]; exact he
        generalize err xs[k] = er at *
        go_wp2_with (refine (HK.out _ (HI.out _ _ hi (below_alloc1 _ _))).mono ?_; rintro e w1 ⟨rfl, hb1⟩)
        go_roundw
        case rel => exact ⟨k + 1, by omega, by go_num, by rw [← HF.out, HD.out, if_pos he], HI.out _ _ hi (below_tr (below_alloc1 _ _) hb1), below_tr (below_al HB.out _) hb1⟩
        case measure => simp [intOf]; omega
      · have he' : (err xs[k] != 0) = true := by rw [bne_iff_ne]; exact he
        generalize err xs[k] = er at *
        go_wp2_with (refine (HK.out _ (HI.out _ _ hi (below_alloc1 _ _))).mono ?_; rintro e w1 ⟨rfl, hb1⟩)
        go_ret2
        exact ⟨by rw [← HF.out, HD.out, if_neg he]; rfl, below_tr (below_al HB.out _) hb1⟩
    · clear hb
      obtain rfl : k = xs.length := by omega
      go_wp2
      go_ret2
      exact ⟨by rw [← HF.out, fb_end _ _ _ (Nat.le_refl _)]; rfl, HB.out⟩
set_option maxHeartbeats 1000000 in
theorem fbl_any (K : FuncId) (caps : Array Value) (eg : ∀ (args : Array Value) (w : World), (callFunc K args).run Try.prog w = .ok (.enter K args) w) (err : Int × Int × Int → Int) (v : Value) (xs : List (Int × Int × Int)) (w : World) (hs : Sl e3 3 w v xs) (hn : xs.length ≤ 1000)
    (Inv : World → Prop) (hInv : ∀ W W', Inv W → Below W.heap.size W W' → Inv W') (h0 : Inv w)
    (hcl : ∀ x ∈ xs, ∀ W, Inv W → Calls Try.prog K (#[.agg #[.int .i64 x.1, .int .i64 x.2.1, .int .i64 x.2.2]] ++ caps) W fun e W' => e = .returned (.int .i64 (err x)) ∧ Below W.heap.size W W') :
    Calls Try.prog 87 #[v, .func (.func K) #[] caps] w fun e w' => e = .returned (.tuple #[.int .i64 (fb err xs 0).1, .int .i64 (fb err xs 0).2]) ∧ Below w.heap.size w w' := by
  obtain ⟨A, c, rfl, hcap⟩ := hs.form
  have HI := Lib.hid hInv
  have HC := Lib.hid hcl
  have HS := Lib.hid hs
  clear hInv hcl hs
  go_enter Try.func87, Try.ntmps87
  go_wp2_with fail
  go_loopw [6, 7, 8, 11] (fun _ _ _ i wr => ∃ k : Nat, k ≤ xs.length ∧ i = .int .i64 k ∧ fb err (xs.drop k) k = fb err xs 0 ∧ Inv wr ∧ Below w.heap.size w wr) (fun _ _ _ i _ => xs.length - (intOf i).toNat)
  case atStart => exact ⟨0, Nat.zero_le _, rfl, rfl, h0, Below.refl _ _⟩
  case round =>
    obtain ⟨k, hk, rfl, hfb, hi, hb⟩ := hrel
    have HF := Lib.hid hfb
    have HB := Lib.hid hb
    clear hfb
    by_cases hlt : k < xs.length
    · obtain ⟨b, off, rfl, hbl, hc0, hc1, hc2⟩ := (HS.out.below hb).at3 hlt
      have hk0 := HC.out xs[k] (List.getElem_mem _)
      have HK := Lib.hid hk0
      have hf := fb_drop err xs k hlt
      have HD := Lib.hid hf
      clear hk0 hf hb
      by_cases he : err xs[k] = 0
      · have he' : (err xs[k] != 0) = false := by rw [bne_eq_false_iff_eq]; exact he
        generalize err xs[k] = er at *
        go_wp2_with (refine (HK.out _ (HI.out _ _ hi (below_alloc1 _ _))).mono ?_; rintro e w1 ⟨rfl, hb1⟩)
        go_roundw
        case rel => exact ⟨k + 1, by omega, by go_num, by rw [← HF.out, HD.out, if_pos he], HI.out _ _ hi (below_tr (below_alloc1 _ _) hb1), below_tr (below_al HB.out _) hb1⟩
        case measure => simp [intOf]; omega
      · have he' : (err xs[k] != 0) = true := by rw [bne_iff_ne]; exact he
        generalize err xs[k] = er at *
        go_wp2_with (refine (HK.out _ (HI.out _ _ hi (below_alloc1 _ _))).mono ?_; rintro e w1 ⟨rfl, hb1⟩)
        go_ret2
        exact ⟨by rw [← HF.out, HD.out, if_neg he]; rfl, below_tr (below_al HB.out _) hb1⟩
    · clear hb
      obtain rfl : k = xs.length := by omega
      go_wp2
      go_ret2
      exact ⟨by rw [← HF.out, fb_end _ _ _ (Nat.le_refl _)]; rfl, HB.out⟩
set_option maxHeartbeats 1000000 in
theorem fbx_any (K : FuncId) (caps : Array Value) (eg : ∀ (args : Array Value) (w : World), (callFunc K args).run Try.prog w = .ok (.enter K args) w) (err : Int × Int × Int → Int) (v : Value) (xs : List (Int × Int × Int)) (w : World) (hs : Sl e3 3 w v xs) (hn : xs.length ≤ 1000)
    (Inv : World → Prop) (hInv : ∀ W W', Inv W → Below W.heap.size W W' → Inv W') (h0 : Inv w)
    (hcl : ∀ x ∈ xs, ∀ W, Inv W → Calls Try.prog K (#[.agg #[.int .i64 x.1, .int .i64 x.2.1, .int .i64 x.2.2]] ++ caps) W fun e W' => e = .returned (.int .i64 (err x)) ∧ Below W.heap.size W W') :
    Calls Try.prog 150 #[v, .func (.func K) #[] caps] w fun e w' => e = .returned (.tuple #[.int .i64 (fb err xs 0).1, .int .i64 (fb err xs 0).2]) ∧ Below w.heap.size w w' := by
  obtain ⟨A, c, rfl, hcap⟩ := hs.form
  have HI := Lib.hid hInv
  have HC := Lib.hid hcl
  have HS := Lib.hid hs
  clear hInv hcl hs
  go_enter Try.func150, Try.ntmps150
  go_wp2_with fail
  go_loopw [6, 7, 8, 11] (fun _ _ _ i wr => ∃ k : Nat, k ≤ xs.length ∧ i = .int .i64 k ∧ fb err (xs.drop k) k = fb err xs 0 ∧ Inv wr ∧ Below w.heap.size w wr) (fun _ _ _ i _ => xs.length - (intOf i).toNat)
  case atStart => exact ⟨0, Nat.zero_le _, rfl, rfl, h0, Below.refl _ _⟩
  case round =>
    obtain ⟨k, hk, rfl, hfb, hi, hb⟩ := hrel
    have HF := Lib.hid hfb
    have HB := Lib.hid hb
    clear hfb
    by_cases hlt : k < xs.length
    · obtain ⟨b, off, rfl, hbl, hc0, hc1, hc2⟩ := (HS.out.below hb).at3 hlt
      have hk0 := HC.out xs[k] (List.getElem_mem _)
      have HK := Lib.hid hk0
      have hf := fb_drop err xs k hlt
      have HD := Lib.hid hf
      clear hk0 hf hb
      by_cases he : err xs[k] = 0
      · have he' : (err xs[k] != 0) = false := by rw [bne_eq_false_iff_eq]; exact he
        generalize err xs[k] = er at *
        go_wp2_with (refine (HK.out _ (HI.out _ _ hi (below_alloc1 _ _))).mono ?_; rintro e w1 ⟨rfl, hb1⟩)
        go_roundw
        case rel => exact ⟨k + 1, by omega, by go_num, by rw [← HF.out, HD.out, if_pos he], HI.out _ _ hi (below_tr (below_alloc1 _ _) hb1), below_tr (below_al HB.out _) hb1⟩
        case measure => simp [intOf]; omega
      · have he' : (err xs[k] != 0) = true := by rw [bne_iff_ne]; exact he
        generalize err xs[k] = er at *
        go_wp2_with (refine (HK.out _ (HI.out _ _ hi (below_alloc1 _ _))).mono ?_; rintro e w1 ⟨rfl, hb1⟩)
        go_ret2
        exact ⟨by rw [← HF.out, HD.out, if_neg he]; rfl, below_tr (below_al HB.out _) hb1⟩
    · clear hb
      obtain rfl : k = xs.length := by omega
      go_wp2
      go_ret2
      exact ⟨by rw [← HF.out, fb_end _ _ _ (Nat.le_refl _)]; rfl, HB.out⟩
set_option maxHeartbeats 1000000 in
theorem fbi_any (K : FuncId) (caps : Array Value) (eg : ∀ (args : Array Value) (w : World), (callFunc K args).run Try.prog w = .ok (.enter K args) w) (err : Int → Int) (v : Value) (xs : List (Int)) (w : World) (hs : Sl e1 1 w v xs) (hn : xs.length ≤ 1000)
    (Inv : World → Prop) (hInv : ∀ W W', Inv W → Below W.heap.size W W' → Inv W') (h0 : Inv w)
    (hcl : ∀ x ∈ xs, ∀ W, Inv W → Calls Try.prog K (#[.int .i64 x] ++ caps) W fun e W' => e = .returned (.int .i64 (err x)) ∧ Below W.heap.size W W') :
    Calls Try.prog 148 #[v, .func (.func K) #[] caps] w fun e w' => e = .returned (.tuple #[.int .i64 (fb err xs 0).1, .int .i64 (fb err xs 0).2]) ∧ Below w.heap.size w w' := by
  obtain ⟨A, c, rfl, hcap⟩ := hs.form
  have HI := Lib.hid hInv
  have HC := Lib.hid hcl
  have HS := Lib.hid hs
  clear hInv hcl hs
  go_enter Try.func148, Try.ntmps148
  go_wp2_with fail
  go_loopw [6, 7, 8, 11] (fun _ _ _ i wr => ∃ k : Nat, k ≤ xs.length ∧ i = .int .i64 k ∧ fb err (xs.drop k) k = fb err xs 0 ∧ Inv wr ∧ Below w.heap.size w wr) (fun _ _ _ i _ => xs.length - (intOf i).toNat)
  case atStart => exact ⟨0, Nat.zero_le _, rfl, rfl, h0, Below.refl _ _⟩
  case round =>
    obtain ⟨k, hk, rfl, hfb, hi, hb⟩ := hrel
    have HF := Lib.hid hfb
    have HB := Lib.hid hb
    clear hfb
    by_cases hlt : k < xs.length
    · obtain ⟨b, off, rfl, hbl, hc0⟩ := (HS.out.below hb).at1 hlt
      have hk0 := HC.out xs[k] (List.getElem_mem _)
      have HK := Lib.hid hk0
      have hf := fb_drop err xs k hlt
      have HD := Lib.hid hf
      clear hk0 hf hb
      by_cases he : err xs[k] = 0
      · have he' : (err xs[k] != 0) = false := by rw [bne_eq_false_iff_eq]; exact he
        generalize err xs[k] = er at *
        go_wp2_with (refine (HK.out _ (HI.out _ _ hi (Below.refl _ _))).mono ?_; rintro e w1 ⟨rfl, hb1⟩)
        go_roundw
        case rel => exact ⟨k + 1, by omega, by go_num, by rw [← HF.out, HD.out, if_pos he], HI.out _ _ hi hb1, below_tr HB.out hb1⟩
        case measure => simp [intOf]; omega
      · have he' : (err xs[k] != 0) = true := by rw [bne_iff_ne]; exact he
        generalize err xs[k] = er at *
        go_wp2_with (refine (HK.out _ (HI.out _ _ hi (Below.refl _ _))).mono ?_; rintro e w1 ⟨rfl, hb1⟩)
        go_ret2
        exact ⟨by rw [← HF.out, HD.out, if_neg he]; rfl, below_tr HB.out hb1⟩
    · clear hb
      obtain rfl : k = xs.length := by omega
      go_wp2
      go_ret2
      exact ⟨by rw [← HF.out, fb_end _ _ _ (Nat.le_refl _)]; rfl, HB.out⟩
end Go.Proofs.Ytegkppphaglpgaa
