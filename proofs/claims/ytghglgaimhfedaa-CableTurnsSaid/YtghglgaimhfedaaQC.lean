/-
  Walks of chapter 1's turns: each Go function about paths and posts returns what the plain mathematics says.
-/
import Derived.Test.YtghglgaimhfedaaQB
import Derived.Test.YtghglgaimhfedaaQA
import Derived.Test.YtghglgaimhfedaaProg
import Derived.BigQuiet
import Derived.Deep.QuietTactic
namespace Go.Proofs.Ytghglgaimhfedaa
open Go.RowKit

theorem within_any (n m : Int) (w : World) (h0 : 0 ≤ m) (h1 : m ≤ 1000000000000) :
    Calls Try.prog 136 #[.int .i64 n, .int .i64 m] w fun e w' => e = .returned (.bool (inR m n)) ∧ w = w' := by
  by_cases a : -m ≤ n
  · by_cases b : n ≤ m
    · have E : Hid (inR m n = true) := inB_true ⟨a, b⟩
      go_enter Try.func136, Try.ntmps136
      go_wp2
      go_ret
      exact ⟨by rw [E.out]; rfl, rfl⟩
    · have E : Hid (inR m n = false) := inB_false (fun h => b h.2)
      go_enter Try.func136, Try.ntmps136
      go_wp2
      go_ret
      exact ⟨by rw [E.out]; rfl, rfl⟩
  · have E : Hid (inR m n = false) := inB_false (fun h => a h.1)
    go_enter Try.func136, Try.ntmps136
    go_wp2
    go_ret
    exact ⟨by rw [E.out]; rfl, rfl⟩
theorem Within_any (n lo hi : Int) (w : World) :
    Calls Try.prog 27 #[.int .i64 n, .int .i64 lo, .int .i64 hi] w fun e w' => e = .returned (.bool (inB n lo hi)) ∧ w = w' := by
  by_cases a : lo ≤ n
  · by_cases b : n ≤ hi
    · have E : Hid (inB n lo hi = true) := inB_true ⟨a, b⟩
      go_enter Try.func27, Try.ntmps27
      go_wp2
      go_ret
      exact ⟨by rw [E.out]; rfl, rfl⟩
    · have E : Hid (inB n lo hi = false) := inB_false (fun h => b h.2)
      go_enter Try.func27, Try.ntmps27
      go_wp2
      go_ret
      exact ⟨by rw [E.out]; rfl, rfl⟩
  · have E : Hid (inB n lo hi = false) := inB_false (fun h => a h.1)
    go_enter Try.func27, Try.ntmps27
    go_wp2
    go_ret
    exact ⟨by rw [E.out]; rfl, rfl⟩

def szErr (m : Int) (xs : List Int) : Int := if xs.all (inR m) = true then 0 else 2
theorem szErr_drop (m : Int) (xs : List Int) (k : Nat) (h : k < xs.length) : szErr m (xs.drop k) = if inR m xs[k] = true then szErr m (xs.drop (k + 1)) else 2 := by
  unfold szErr
  rw [List.drop_eq_getElem_cons h, List.all_cons]
  cases inR m xs[k] <;> simp
set_option maxHeartbeats 400000 in
theorem SizeError_any (m : Int) (v : Value) (xs : List Int) (w : World) (h0 : 0 ≤ m) (h1 : m ≤ 1000000000000) (hs : Sl e1 1 w v xs) (hn : xs.length ≤ 1000000) :
    Calls Try.prog 87 #[.int .i64 m, v] w fun e w' => e = .returned (.int .i64 (szErr m xs)) ∧ w = w' := by
  obtain ⟨A, c, rfl, hcap⟩ := hs.form
  have HS := Lib.hid hs
  clear hs
  go_enter Try.func87, Try.ntmps87
  go_wp2_with fail
  go_loopw [6, 9] (fun _ i wr => ∃ k : Nat, k ≤ xs.length ∧ i = .int .i64 k ∧ szErr m (xs.drop k) = szErr m xs ∧ w = wr) (fun _ i _ => xs.length - (intOf i).toNat)
  case atStart => exact ⟨0, Nat.zero_le _, rfl, rfl, by trivial⟩
  case round =>
    obtain ⟨k, hk, rfl, hfb, rfl⟩ := hrel
    have HF := Lib.hid hfb
    clear hfb
    by_cases hlt : k < xs.length
    · obtain ⟨b, off, rfl, hbl, hc0⟩ := HS.out.at1 hlt
      have HD := Lib.hid (szErr_drop m xs k hlt)
      generalize xs[k] = y at *
      cases hy : inR m y
      · rw [hy] at HD
        go_wp2_with (go_at_call 136; refine (within_any _ _ _ (by omega) (by omega)).mono ?_; rintro e w' ⟨rfl, rfl⟩)
        go_ret
        exact ⟨ret_int (by rw [← HF.out, HD.out]; rfl), by trivial⟩
      · rw [hy] at HD
        go_wp2_with (go_at_call 136; refine (within_any _ _ _ (by omega) (by omega)).mono ?_; rintro e w' ⟨rfl, rfl⟩)
        go_roundw
        case rel => exact ⟨k + 1, by omega, by go_num, by rw [← HF.out, HD.out]; rfl, by trivial⟩
        case measure => simp [intOf]; omega
    · obtain rfl : k = xs.length := by omega
      go_wp2_with fail
      go_ret
      exact ⟨ret_int (by rw [← HF.out]; simp [szErr]), by trivial⟩
/-- A row of numbers that has just been laid. -/
theorem Sl.laid (w : World) (cs : Array Value) (xs : List Int) (t : TypeId) (hm : xs.length ≤ 1000000) (hs : cs.size = xs.length * 1) (hc : cs.toList = xs.flatMap e1) :
    Sl e1 1 (w.alloc (.cells cs t)) (.slice (some ⟨w.heap.size, 0, none⟩) xs.length xs.length) xs := (Ow.lit (base := w.heap.size) w cs xs (Nat.le_refl _) hm hs hc).sl e1_len
theorem sl1 (w : World) (a : Int) (t : TypeId) : Sl e1 1 (w.alloc (.cells #[.int .i64 a] t)) (.slice (some ⟨w.heap.size, 0, none⟩) 1 1) [a] := Sl.laid w #[.int .i64 a] [a] t (by simp) rfl rfl
theorem sl2 (w : World) (a b : Int) (t : TypeId) : Sl e1 1 (w.alloc (.cells #[.int .i64 a, .int .i64 b] t)) (.slice (some ⟨w.heap.size, 0, none⟩) 2 2) [a, b] := Sl.laid w #[.int .i64 a, .int .i64 b] [a, b] t (by simp) rfl rfl
theorem sl3 (w : World) (a b c : Int) (t : TypeId) : Sl e1 1 (w.alloc (.cells #[.int .i64 a, .int .i64 b, .int .i64 c] t)) (.slice (some ⟨w.heap.size, 0, none⟩) 3 3) [a, b, c] := Sl.laid w #[.int .i64 a, .int .i64 b, .int .i64 c] [a, b, c] t (by simp) rfl rfl
theorem placeErr_sz (p : Pt) : szErr 10000 [p.1, p.2] = placeErr p := by simp [szErr, placeErr, placeOk]
theorem placeError_any (p : Pt) (w : World) :
    Calls Try.prog 159 #[.agg #[.int .i64 p.1, .int .i64 p.2]] w fun e w' => e = .returned (.int .i64 (placeErr p)) ∧ Below w.heap.size w w' := by
  have E := Lib.hid (placeErr_sz p)
  obtain ⟨x, y⟩ := p
  have H := Lib.hid (sl2 w x y 61)
  simp only at *
  go_enter Try.func159, Try.ntmps159
  go_wp2_with (go_at_call 87; refine (SizeError_any _ _ [x, y] _ (by omega) (by omega) H.out (by simp)).mono ?_; rintro e w' ⟨rfl, rfl⟩)
  go_ret
  exact ⟨ret_int E.out, below_alloc1 _ _⟩
theorem isPlace_any (p : Pt) (w : World) :
    Calls Try.prog 133 #[.agg #[.int .i64 p.1, .int .i64 p.2]] w fun e w' => e = .returned (.bool (placeOk p)) ∧ Below w.heap.size w w' := by
  obtain ⟨x, y⟩ := p
  show Calls Try.prog 133 #[.agg #[.int .i64 x, .int .i64 y]] w _
  have E : Hid (placeOk (x, y) = (inB x (-10000) 10000 && inB y (-10000) 10000)) := rfl
  cases hx : inB x (-10000) 10000
  · go_enter Try.func133, Try.ntmps133
    go_wp2_with (go_at_call 27; refine (Within_any _ _ _ _).mono ?_; rintro e w' ⟨rfl, rfl⟩)
    go_ret
    exact ⟨by rw [E.out, hx]; rfl, (by repeat (first | assumption | exact Below.refl _ _ | refine below_al ?_ _ | refine below_dr ?_ | refine below_tr ?_ (by assumption)))⟩
  · go_enter Try.func133, Try.ntmps133
    go_wp2_with (go_at_call 27; refine (Within_any _ _ _ _).mono ?_; rintro e w' ⟨rfl, rfl⟩)
    go_ret
    exact ⟨by rw [E.out, hx]; rfl, (by repeat (first | assumption | exact Below.refl _ _ | refine below_al ?_ _ | refine below_dr ?_ | refine below_tr ?_ (by assumption)))⟩
end Go.Proofs.Ytghglgaimhfedaa

namespace Go.Proofs.Ytghglgaimhfedaa
open Go.RowKit

theorem fb_pair {a b c d : Int} {p q : Int × Int} (h : p = q) (h1 : p = (a, b)) (h2 : q = (c, d)) : Ending.returned (.tuple #[.int .i64 a, .int .i64 b]) = .returned (.tuple #[.int .i64 c, .int .i64 d]) := by
  rw [h, h2] at h1; cases h1; rfl
set_option maxHeartbeats 1000000 in
theorem fb2_any (K : FuncId) (caps : Array Value) (eg : ∀ (args : Array Value) (w : World), (callFunc K args).run Try.prog w = .ok (.enter K args) w) (err : Int × Int → Int) (v : Value) (xs : List (Int × Int)) (w : World) (hs : Sl e2 2 w v xs) (hn : xs.length ≤ 1000)
    (Inv : World → Prop) (hInv : ∀ W W', Inv W → Below W.heap.size W W' → Inv W') (h0 : Inv w)
    (hcl : ∀ x ∈ xs, ∀ W, Inv W → Calls Try.prog K (#[.agg #[.int .i64 x.1, .int .i64 x.2]] ++ caps) W fun e W' => e = .returned (.int .i64 (err x)) ∧ Below W.heap.size W W') :
    Calls Try.prog 131 #[v, .func (.func K) #[] caps] w fun e w' => e = .returned (.tuple #[.int .i64 (fb err xs 0).1, .int .i64 (fb err xs 0).2]) ∧ Below w.heap.size w w' := by
  obtain ⟨A, c, rfl, hcap⟩ := hs.form
  have HI := Lib.hid hInv
  have HC := Lib.hid hcl
  have HS := Lib.hid hs
  clear hInv hcl hs
  go_enter Try.func131, Try.ntmps131
  go_wp2_with fail
  go_loopw [6, 7, 8, 11] (fun _ _ _ i wr => ∃ k : Nat, k ≤ xs.length ∧ i = .int .i64 k ∧ fb err (xs.drop k) k = fb err xs 0 ∧ Inv wr ∧ Below w.heap.size w wr) (fun _ _ _ i _ => xs.length - (intOf i).toNat)
  case atStart => exact ⟨0, Nat.zero_le _, rfl, rfl, h0, Below.refl _ _⟩
  case round =>
    obtain ⟨k, hk, rfl, hfb, hi, hb⟩ := hrel
    have HF := Lib.hid hfb
    have HB := Lib.hid hb
    clear hfb
    by_cases hlt : k < xs.length
    · obtain ⟨b, off, rfl, hbl, hc0, hc1⟩ := (HS.out.below hb).at2 hlt
      have hk0 := HC.out xs[k] (List.getElem_mem _)
      have HK := Lib.hid hk0
      have hf := fb_drop err xs k hlt
      have HD := Lib.hid hf
      clear hk0 hf hb
      by_cases he : err xs[k] = 0
      · have he' : (err xs[k] != 0) = false := by rw [bne_eq_false_iff_eq]; exact he
        generalize err xs[k] = er at *
        go_wp2_with (refine (HK.out _ (HI.out _ _ hi (below_alloc1 _ _))).mono ?_; rintro e w1 ⟨rfl, hb1⟩)
        go_roundw
        case rel => exact ⟨k + 1, by omega, by go_num, by rw [← HF.out, HD.out, if_pos he], HI.out _ _ hi (below_tr (below_alloc1 _ _) hb1), below_tr (below_al HB.out _) hb1⟩
        case measure => simp [intOf]; omega
      · have he' : (err xs[k] != 0) = true := by rw [bne_iff_ne]; exact he
        generalize err xs[k] = er at *
        go_wp2_with (refine (HK.out _ (HI.out _ _ hi (below_alloc1 _ _))).mono ?_; rintro e w1 ⟨rfl, hb1⟩)
        go_ret2
        exact ⟨by rw [← HF.out, HD.out, if_neg he]; rfl, below_tr (below_al HB.out _) hb1⟩
    · clear hb
      obtain rfl : k = xs.length := by omega
      go_wp2
      go_ret2
      exact ⟨by rw [← HF.out, fb_end _ _ _ (Nat.le_refl _)]; rfl, HB.out⟩
set_option maxHeartbeats 1000000 in
theorem fbr_any (K : FuncId) (caps : Array Value) (eg : ∀ (args : Array Value) (w : World), (callFunc K args).run Try.prog w = .ok (.enter K args) w) (err : Int × Int → Int) (v : Value) (xs : List (Int × Int)) (w : World) (hs : Sl e2 2 w v xs) (hn : xs.length ≤ 1000)
    (Inv : World → Prop) (hInv : ∀ W W', Inv W → Below W.heap.size W W' → Inv W') (h0 : Inv w)
    (hcl : ∀ x ∈ xs, ∀ W, Inv W → Calls Try.prog K (#[.agg #[.int .i64 x.1, .int .i64 x.2]] ++ caps) W fun e W' => e = .returned (.int .i64 (err x)) ∧ Below W.heap.size W W') :
    Calls Try.prog 92 #[v, .func (.func K) #[] caps] w fun e w' => e = .returned (.tuple #[.int .i64 (fb err xs 0).1, .int .i64 (fb err xs 0).2]) ∧ Below w.heap.size w w' := by
  obtain ⟨A, c, rfl, hcap⟩ := hs.form
  have HI := Lib.hid hInv
  have HC := Lib.hid hcl
  have HS := Lib.hid hs
  clear hInv hcl hs
  go_enter Try.func92, Try.ntmps92
  go_wp2_with fail
  go_loopw [6, 7, 8, 11] (fun _ _ _ i wr => ∃ k : Nat, k ≤ xs.length ∧ i = .int .i64 k ∧ fb err (xs.drop k) k = fb err xs 0 ∧ Inv wr ∧ Below w.heap.size w wr) (fun _ _ _ i _ => xs.length - (intOf i).toNat)
  case atStart => exact ⟨0, Nat.zero_le _, rfl, rfl, h0, Below.refl _ _⟩
  case round =>
    obtain ⟨k, hk, rfl, hfb, hi, hb⟩ := hrel
    have HF := Lib.hid hfb
    have HB := Lib.hid hb
    clear hfb
    by_cases hlt : k < xs.length
    · obtain ⟨b, off, rfl, hbl, hc0, hc1⟩ := (HS.out.below hb).at2 hlt
      have hk0 := HC.out xs[k] (List.getElem_mem _)
      have HK := Lib.hid hk0
      have hf := fb_drop err xs k hlt
      have HD := Lib.hid hf
      clear hk0 hf hb
      by_cases he : err xs[k] = 0
      · have he' : (err xs[k] != 0) = false := by rw [bne_eq_false_iff_eq]; exact he
        generalize err xs[k] = er at *
        go_wp2_with (refine (HK.out _ (HI.out _ _ hi (below_alloc1 _ _))).mono ?_; rintro e w1 ⟨rfl, hb1⟩)
        go_roundw
        case rel => exact ⟨k + 1, by omega, by go_num, by rw [← HF.out, HD.out, if_pos he], HI.out _ _ hi (below_tr (below_alloc1 _ _) hb1), below_tr (below_al HB.out _) hb1⟩
        case measure => simp [intOf]; omega
      · have he' : (err xs[k] != 0) = true := by rw [bne_iff_ne]; exact he
        generalize err xs[k] = er at *
        go_wp2_with (refine (HK.out _ (HI.out _ _ hi (below_alloc1 _ _))).mono ?_; rintro e w1 ⟨rfl, hb1⟩)
        go_ret2
        exact ⟨by rw [← HF.out, HD.out, if_neg he]; rfl, below_tr (below_al HB.out _) hb1⟩
    · clear hb
      obtain rfl : k = xs.length := by omega
      go_wp2
      go_ret2
      exact ⟨by rw [← HF.out, fb_end _ _ _ (Nat.le_refl _)]; rfl, HB.out⟩
set_option maxHeartbeats 1000000 in
theorem fbl_any (K : FuncId) (caps : Array Value) (eg : ∀ (args : Array Value) (w : World), (callFunc K args).run Try.prog w = .ok (.enter K args) w) (err : Int × Int × Int → Int) (v : Value) (xs : List (Int × Int × Int)) (w : World) (hs : Sl e3 3 w v xs) (hn : xs.length ≤ 1000)
    (Inv : World → Prop) (hInv : ∀ W W', Inv W → Below W.heap.size W W' → Inv W') (h0 : Inv w)
    (hcl : ∀ x ∈ xs, ∀ W, Inv W → Calls Try.prog K (#[.agg #[.int .i64 x.1, .int .i64 x.2.1, .int .i64 x.2.2]] ++ caps) W fun e W' => e = .returned (.int .i64 (err x)) ∧ Below W.heap.size W W') :
    Calls Try.prog 137 #[v, .func (.func K) #[] caps] w fun e w' => e = .returned (.tuple #[.int .i64 (fb err xs 0).1, .int .i64 (fb err xs 0).2]) ∧ Below w.heap.size w w' := by
  obtain ⟨A, c, rfl, hcap⟩ := hs.form
  have HI := Lib.hid hInv
  have HC := Lib.hid hcl
  have HS := Lib.hid hs
  clear hInv hcl hs
  go_enter Try.func137, Try.ntmps137
  go_wp2_with fail
  go_loopw [6, 7, 8, 11] (fun _ _ _ i wr => ∃ k : Nat, k ≤ xs.length ∧ i = .int .i64 k ∧ fb err (xs.drop k) k = fb err xs 0 ∧ Inv wr ∧ Below w.heap.size w wr) (fun _ _ _ i _ => xs.length - (intOf i).toNat)
  case atStart => exact ⟨0, Nat.zero_le _, rfl, rfl, h0, Below.refl _ _⟩
  case round =>
    obtain ⟨k, hk, rfl, hfb, hi, hb⟩ := hrel
    have HF := Lib.hid hfb
    have HB := Lib.hid hb
    clear hfb
    by_cases hlt : k < xs.length
    · obtain ⟨b, off, rfl, hbl, hc0, hc1, hc2⟩ := (HS.out.below hb).at3 hlt
      have hk0 := HC.out xs[k] (List.getElem_mem _)
      have HK := Lib.hid hk0
      have hf := fb_drop err xs k hlt
      have HD := Lib.hid hf
      clear hk0 hf hb
      by_cases he : err xs[k] = 0
      · have he' : (err xs[k] != 0) = false := by rw [bne_eq_false_iff_eq]; exact he
        generalize err xs[k] = er at *
        go_wp2_with (refine (HK.out _ (HI.out _ _ hi (below_alloc1 _ _))).mono ?_; rintro e w1 ⟨rfl, hb1⟩)
        go_roundw
        case rel => exact ⟨k + 1, by omega, by go_num, by rw [← HF.out, HD.out, if_pos he], HI.out _ _ hi (below_tr (below_alloc1 _ _) hb1), below_tr (below_al HB.out _) hb1⟩
        case measure => simp [intOf]; omega
      · have he' : (err xs[k] != 0) = true := by rw [bne_iff_ne]; exact he
        generalize err xs[k] = er at *
        go_wp2_with (refine (HK.out _ (HI.out _ _ hi (below_alloc1 _ _))).mono ?_; rintro e w1 ⟨rfl, hb1⟩)
        go_ret2
        exact ⟨by rw [← HF.out, HD.out, if_neg he]; rfl, below_tr (below_al HB.out _) hb1⟩
    · clear hb
      obtain rfl : k = xs.length := by omega
      go_wp2
      go_ret2
      exact ⟨by rw [← HF.out, fb_end _ _ _ (Nat.le_refl _)]; rfl, HB.out⟩
set_option maxHeartbeats 1000000 in
theorem fbx_any (K : FuncId) (caps : Array Value) (eg : ∀ (args : Array Value) (w : World), (callFunc K args).run Try.prog w = .ok (.enter K args) w) (err : Int × Int × Int → Int) (v : Value) (xs : List (Int × Int × Int)) (w : World) (hs : Sl e3 3 w v xs) (hn : xs.length ≤ 1000)
    (Inv : World → Prop) (hInv : ∀ W W', Inv W → Below W.heap.size W W' → Inv W') (h0 : Inv w)
    (hcl : ∀ x ∈ xs, ∀ W, Inv W → Calls Try.prog K (#[.agg #[.int .i64 x.1, .int .i64 x.2.1, .int .i64 x.2.2]] ++ caps) W fun e W' => e = .returned (.int .i64 (err x)) ∧ Below W.heap.size W W') :
    Calls Try.prog 152 #[v, .func (.func K) #[] caps] w fun e w' => e = .returned (.tuple #[.int .i64 (fb err xs 0).1, .int .i64 (fb err xs 0).2]) ∧ Below w.heap.size w w' := by
  obtain ⟨A, c, rfl, hcap⟩ := hs.form
  have HI := Lib.hid hInv
  have HC := Lib.hid hcl
  have HS := Lib.hid hs
  clear hInv hcl hs
  go_enter Try.func152, Try.ntmps152
  go_wp2_with fail
  go_loopw [6, 7, 8, 11] (fun _ _ _ i wr => ∃ k : Nat, k ≤ xs.length ∧ i = .int .i64 k ∧ fb err (xs.drop k) k = fb err xs 0 ∧ Inv wr ∧ Below w.heap.size w wr) (fun _ _ _ i _ => xs.length - (intOf i).toNat)
  case atStart => exact ⟨0, Nat.zero_le _, rfl, rfl, h0, Below.refl _ _⟩
  case round =>
    obtain ⟨k, hk, rfl, hfb, hi, hb⟩ := hrel
    have HF := Lib.hid hfb
    have HB := Lib.hid hb
    clear hfb
    by_cases hlt : k < xs.length
    · obtain ⟨b, off, rfl, hbl, hc0, hc1, hc2⟩ := (HS.out.below hb).at3 hlt
      have hk0 := HC.out xs[k] (List.getElem_mem _)
      have HK := Lib.hid hk0
      have hf := fb_drop err xs k hlt
      have HD := Lib.hid hf
      clear hk0 hf hb
      by_cases he : err xs[k] = 0
      · have he' : (err xs[k] != 0) = false := by rw [bne_eq_false_iff_eq]; exact he
        generalize err xs[k] = er at *
        go_wp2_with (refine (HK.out _ (HI.out _ _ hi (below_alloc1 _ _))).mono ?_; rintro e w1 ⟨rfl, hb1⟩)
        go_roundw
        case rel => exact ⟨k + 1, by omega, by go_num, by rw [← HF.out, HD.out, if_pos he], HI.out _ _ hi (below_tr (below_alloc1 _ _) hb1), below_tr (below_al HB.out _) hb1⟩
        case measure => simp [intOf]; omega
      · have he' : (err xs[k] != 0) = true := by rw [bne_iff_ne]; exact he
        generalize err xs[k] = er at *
        go_wp2_with (refine (HK.out _ (HI.out _ _ hi (below_alloc1 _ _))).mono ?_; rintro e w1 ⟨rfl, hb1⟩)
        go_ret2
        exact ⟨by rw [← HF.out, HD.out, if_neg he]; rfl, below_tr (below_al HB.out _) hb1⟩
    · clear hb
      obtain rfl : k = xs.length := by omega
      go_wp2
      go_ret2
      exact ⟨by rw [← HF.out, fb_end _ _ _ (Nat.le_refl _)]; rfl, HB.out⟩
set_option maxHeartbeats 1000000 in
theorem fbi_any (K : FuncId) (caps : Array Value) (eg : ∀ (args : Array Value) (w : World), (callFunc K args).run Try.prog w = .ok (.enter K args) w) (err : Int → Int) (v : Value) (xs : List (Int)) (w : World) (hs : Sl e1 1 w v xs) (hn : xs.length ≤ 1000)
    (Inv : World → Prop) (hInv : ∀ W W', Inv W → Below W.heap.size W W' → Inv W') (h0 : Inv w)
    (hcl : ∀ x ∈ xs, ∀ W, Inv W → Calls Try.prog K (#[.int .i64 x] ++ caps) W fun e W' => e = .returned (.int .i64 (err x)) ∧ Below W.heap.size W W') :
    Calls Try.prog 150 #[v, .func (.func K) #[] caps] w fun e w' => e = .returned (.tuple #[.int .i64 (fb err xs 0).1, .int .i64 (fb err xs 0).2]) ∧ Below w.heap.size w w' := by
  obtain ⟨A, c, rfl, hcap⟩ := hs.form
  have HI := Lib.hid hInv
  have HC := Lib.hid hcl
  have HS := Lib.hid hs
  clear hInv hcl hs
  go_enter Try.func150, Try.ntmps150
  go_wp2_with fail
  go_loopw [6, 7, 8, 11] (fun _ _ _ i wr => ∃ k : Nat, k ≤ xs.length ∧ i = .int .i64 k ∧ fb err (xs.drop k) k = fb err xs 0 ∧ Inv wr ∧ Below w.heap.size w wr) (fun _ _ _ i _ => xs.length - (intOf i).toNat)
  case atStart => exact ⟨0, Nat.zero_le _, rfl, rfl, h0, Below.refl _ _⟩
  case round =>
    obtain ⟨k, hk, rfl, hfb, hi, hb⟩ := hrel
    have HF := Lib.hid hfb
    have HB := Lib.hid hb
    clear hfb
    by_cases hlt : k < xs.length
    · obtain ⟨b, off, rfl, hbl, hc0⟩ := (HS.out.below hb).at1 hlt
      have hk0 := HC.out xs[k] (List.getElem_mem _)
      have HK := Lib.hid hk0
      have hf := fb_drop err xs k hlt
      have HD := Lib.hid hf
      clear hk0 hf hb
      by_cases he : err xs[k] = 0
      · have he' : (err xs[k] != 0) = false := by rw [bne_eq_false_iff_eq]; exact he
        generalize err xs[k] = er at *
        go_wp2_with (refine (HK.out _ (HI.out _ _ hi (Below.refl _ _))).mono ?_; rintro e w1 ⟨rfl, hb1⟩)
        go_roundw
        case rel => exact ⟨k + 1, by omega, by go_num, by rw [← HF.out, HD.out, if_pos he], HI.out _ _ hi hb1, below_tr HB.out hb1⟩
        case measure => simp [intOf]; omega
      · have he' : (err xs[k] != 0) = true := by rw [bne_iff_ne]; exact he
        generalize err xs[k] = er at *
        go_wp2_with (refine (HK.out _ (HI.out _ _ hi (Below.refl _ _))).mono ?_; rintro e w1 ⟨rfl, hb1⟩)
        go_ret2
        exact ⟨by rw [← HF.out, HD.out, if_neg he]; rfl, below_tr HB.out hb1⟩
    · clear hb
      obtain rfl : k = xs.length := by omega
      go_wp2
      go_ret2
      exact ⟨by rw [← HF.out, fb_end _ _ _ (Nat.le_refl _)]; rfl, HB.out⟩
end Go.Proofs.Ytghglgaimhfedaa

namespace Go.Proofs.Ytghglgaimhfedaa
open Go.RowKit

theorem sideOf_any (a b p : Pt) (w : World) (ha : Sm a) (hb : Sm b) (hp : Sm p) :
    Calls Try.prog 166 #[.agg #[.int .i64 a.1, .int .i64 a.2], .agg #[.int .i64 b.1, .int .i64 b.2], .agg #[.int .i64 p.1, .int .i64 p.2]] w fun e w' => e = .returned (.int .i64 (side a b p)) ∧ Below w.heap.size w w' := by
  obtain ⟨a1, a2⟩ := a; obtain ⟨b1, b2⟩ := b; obtain ⟨p1, p2⟩ := p
  obtain ⟨xa1, xa2, xa3, xa4⟩ := ha; obtain ⟨xb1, xb2, xb3, xb4⟩ := hb; obtain ⟨xp1, xp2, xp3, xp4⟩ := hp
  simp only at *
  have m1 := mul_bd (b1 - a1) (p2 - a2) 20000 20000 (by omega) (by omega)
  have m2 := mul_bd (b2 - a2) (p1 - a1) 20000 20000 (by omega) (by omega)
  obtain ⟨m1a, m1b⟩ := m1; obtain ⟨m2a, m2b⟩ := m2
  go_enter Try.func166, Try.ntmps166
  go_wp2
  go_ret
  exact ⟨rfl, (by repeat (first | assumption | exact Below.refl _ _ | refine below_al ?_ _ | refine below_dr ?_ | refine below_tr ?_ (by assumption)))⟩
theorem side_any (a b p : Pt) (w : World) (ha : Sm a) (hb : Sm b) (hp : Sm p) :
    Calls Try.prog 135 #[.agg #[.int .i64 a.1, .int .i64 a.2], .agg #[.int .i64 b.1, .int .i64 b.2], .agg #[.int .i64 p.1, .int .i64 p.2]] w fun e w' => e = .returned (.int .i64 (side a b p)) ∧ Below w.heap.size w w' := by
  obtain ⟨a1, a2⟩ := a; obtain ⟨b1, b2⟩ := b; obtain ⟨p1, p2⟩ := p
  obtain ⟨xa1, xa2, xa3, xa4⟩ := ha; obtain ⟨xb1, xb2, xb3, xb4⟩ := hb; obtain ⟨xp1, xp2, xp3, xp4⟩ := hp
  simp only at *
  have m1 := mul_bd (b1 - a1) (p2 - a2) 20000 20000 (by omega) (by omega)
  have m2 := mul_bd (b2 - a2) (p1 - a1) 20000 20000 (by omega) (by omega)
  obtain ⟨m1a, m1b⟩ := m1; obtain ⟨m2a, m2b⟩ := m2
  go_enter Try.func135, Try.ntmps135
  go_wp2
  go_ret
  exact ⟨rfl, (by repeat (first | assumption | exact Below.refl _ _ | refine below_al ?_ _ | refine below_dr ?_ | refine below_tr ?_ (by assumption)))⟩
theorem isBetween_any (a n b : Int) (w : World) :
    Calls Try.prog 167 #[.int .i64 a, .int .i64 n, .int .i64 b] w fun e w' => e = .returned (.bool (btw a n b)) ∧ w = w' := by
  go_enter Try.func167, Try.ntmps167
  go_wp2
  all_goals
    go_ret
    exact ⟨ret_bool (by rw [Bool.eq_iff_iff]; simp [btw]; omega), rfl⟩
theorem liesOn_any (a b p : Pt) (w : World) (ha : Sm a) (hb : Sm b) (hp : Sm p) :
    Calls Try.prog 161 #[.agg #[.int .i64 a.1, .int .i64 a.2], .agg #[.int .i64 b.1, .int .i64 b.2], .agg #[.int .i64 p.1, .int .i64 p.2]] w fun e w' => e = .returned (.bool (onWay a b p)) ∧ Below w.heap.size w w' := by
  have hs := fun w => sideOf_any a b p w ha hb hp
  have HS := Lib.hid hs
  clear hs ha hb hp
  have E : onWay a b p = (decide (side a b p = 0) && btw a.1 p.1 b.1 && btw a.2 p.2 b.2) := rfl
  obtain ⟨a1, a2⟩ := a; obtain ⟨b1, b2⟩ := b; obtain ⟨p1, p2⟩ := p
  simp only at E HS ⊢
  generalize side (a1, a2) (b1, b2) (p1, p2) = sd at *
  generalize onWay (a1, a2) (b1, b2) (p1, p2) = res at *
  have HE := Lib.hid E
  clear E
  by_cases h0 : sd = 0
  · have h0' : (sd == 0) = true := by simpa using h0
    cases h1 : btw a1 p1 b1
    all_goals
      go_enter Try.func161, Try.ntmps161
      go_wp2_with (first
        | (go_at_call 166; refine (HS.out _).mono ?_; rintro e w1 ⟨rfl, hb1⟩; obtain ⟨hc1, hf1, hz1⟩ := bcell hb1; simp at hz1)
        | (go_at_call 167; refine (isBetween_any _ _ _ _).mono ?_; rintro e w2 ⟨rfl, rfl⟩))
      go_ret
      clear hc1 hf1
      exact ⟨ret_bool (by rw [HE.out, h1]; simp [h0]), below_tr (by repeat (first | assumption | exact Below.refl _ _ | refine below_al ?_ _ | refine below_dr ?_ | refine below_tr ?_ (by assumption))) hb1⟩
  · have h0' : (sd == 0) = false := by simpa using h0
    go_enter Try.func161, Try.ntmps161
    go_wp2_with (first
        | (go_at_call 166; refine (HS.out _).mono ?_; rintro e w1 ⟨rfl, hb1⟩; obtain ⟨hc1, hf1, hz1⟩ := bcell hb1; simp at hz1)
        | (go_at_call 167; refine (isBetween_any _ _ _ _).mono ?_; rintro e w2 ⟨rfl, rfl⟩))
    go_ret
    clear hc1 hf1
    exact ⟨ret_bool (by rw [HE.out]; simp [h0]), below_tr (by repeat (first | assumption | exact Below.refl _ _ | refine below_al ?_ _ | refine below_dr ?_ | refine below_tr ?_ (by assumption))) hb1⟩
theorem on_any (a b p : Pt) (w : World) (ha : Sm a) (hb : Sm b) (hp : Sm p) :
    Calls Try.prog 134 #[.agg #[.int .i64 a.1, .int .i64 a.2], .agg #[.int .i64 b.1, .int .i64 b.2], .agg #[.int .i64 p.1, .int .i64 p.2]] w fun e w' => e = .returned (.bool (onWay a b p)) ∧ Below w.heap.size w w' := by
  have hs := fun w => side_any a b p w ha hb hp
  have HS := Lib.hid hs
  clear hs ha hb hp
  have E : onWay a b p = (decide (side a b p = 0) && inB p.1 (min a.1 b.1) (max a.1 b.1) && inB p.2 (min a.2 b.2) (max a.2 b.2)) := rfl
  obtain ⟨a1, a2⟩ := a; obtain ⟨b1, b2⟩ := b; obtain ⟨p1, p2⟩ := p
  simp only at E HS ⊢
  generalize side (a1, a2) (b1, b2) (p1, p2) = sd at *
  generalize onWay (a1, a2) (b1, b2) (p1, p2) = res at *
  have HE := Lib.hid E
  clear E
  by_cases h0 : sd = 0
  · have h0' : (sd == 0) = true := by simpa using h0
    go_enter Try.func134, Try.ntmps134
    go_wp2_with (first
        | (go_at_call 135; refine (HS.out _).mono ?_; rintro e w1 ⟨rfl, hb1⟩; obtain ⟨hc1, hf1, hz1⟩ := bcell hb1; simp at hz1)
        | (go_at_call 27; refine (Within_any _ _ _ _).mono ?_; rintro e w2 ⟨rfl, rfl⟩))
    all_goals
      go_ret
      refine ⟨ret_bool ?_, below_tr (by repeat (first | assumption | exact Below.refl _ _ | refine below_al ?_ _ | refine below_dr ?_ | refine below_tr ?_ (by assumption))) hb1⟩
      clear hc1 hf1 hb1 HS
      rw [HE.out, Bool.eq_iff_iff]
      simp [inB, h0] at *
      omega
  · have h0' : (sd == 0) = false := by simpa using h0
    go_enter Try.func134, Try.ntmps134
    go_wp2_with (first
        | (go_at_call 135; refine (HS.out _).mono ?_; rintro e w1 ⟨rfl, hb1⟩; obtain ⟨hc1, hf1, hz1⟩ := bcell hb1; simp at hz1)
        | (go_at_call 27; refine (Within_any _ _ _ _).mono ?_; rintro e w2 ⟨rfl, rfl⟩))
    go_ret
    clear hc1 hf1
    exact ⟨ret_bool (by rw [HE.out]; simp [h0]), below_tr (by repeat (first | assumption | exact Below.refl _ _ | refine below_al ?_ _ | refine below_dr ?_ | refine below_tr ?_ (by assumption))) hb1⟩
theorem crossing_any (a b p : Pt) (w : World) (ha : Sm a) (hb : Sm b) (hp : Sm p) :
    Calls Try.prog 162 #[.agg #[.int .i64 a.1, .int .i64 a.2], .agg #[.int .i64 b.1, .int .i64 b.2], .agg #[.int .i64 p.1, .int .i64 p.2]] w fun e w' => e = .returned (.int .i64 (cross a b p)) ∧ Below w.heap.size w w' := by
  have hs := fun w => sideOf_any a b p w ha hb hp
  have HS := Lib.hid hs
  clear hs ha hb hp
  have E : cross a b p = if a.2 ≤ p.2 ∧ p.2 < b.2 ∧ 0 < side a b p then 1 else if b.2 ≤ p.2 ∧ p.2 < a.2 ∧ side a b p < 0 then -1 else 0 := rfl
  obtain ⟨a1, a2⟩ := a; obtain ⟨b1, b2⟩ := b; obtain ⟨p1, p2⟩ := p
  simp only at E HS ⊢
  generalize side (a1, a2) (b1, b2) (p1, p2) = sd at *
  generalize cross (a1, a2) (b1, b2) (p1, p2) = res at *
  have HE := Lib.hid E
  clear E
  by_cases x1 : a2 ≤ p2
  all_goals by_cases x2 : p2 < b2
  all_goals by_cases x3 : b2 ≤ p2
  all_goals by_cases x4 : p2 < a2
  all_goals by_cases x5 : 0 < sd
  all_goals by_cases x6 : sd < 0
  all_goals try omega
  all_goals
    go_enter Try.func162, Try.ntmps162
    go_wp2_with (go_at_call 166; refine (HS.out _).mono ?_; rintro e w1 ⟨rfl, hb1⟩; obtain ⟨hc1, hf1, hz1⟩ := bcell hb1; simp at hz1)
    go_ret
    refine ⟨ret_int ?_, below_tr (by repeat (first | assumption | exact Below.refl _ _ | refine below_al ?_ _ | refine below_dr ?_ | refine below_tr ?_ (by assumption))) hb1⟩
    rw [HE.out]
    clear hc1 hf1 hb1 HS HE
    (repeat' split) <;> omega
end Go.Proofs.Ytghglgaimhfedaa
