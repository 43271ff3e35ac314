/-
  Walks of chapter 1's turns: each Go function about paths and posts returns what the plain mathematics says.
-/
import Derived.Test.YtegkppphaglpgaaKb
import Derived.Test.YtegkppphaglpgaaSt
import Derived.Test.YtegkppphaglpgaaProg
import Derived.BigQuiet
import Derived.Deep.QuietTactic
namespace Go.Proofs.Ytegkppphaglpgaa
open Go.RowKit

theorem within_any (n m : Int) (w : World) (h0 : 0 ≤ m) (h1 : m ≤ 1000000000000) :
    Calls Try.prog 135 #[.int .i64 n, .int .i64 m] w fun e w' => e = .returned (.bool (inR m n)) ∧ w = w' := by
  by_cases a : -m ≤ n
  · by_cases b : n ≤ m
    · have E : Hid (inR m n = true) := inB_true ⟨a, b⟩
      go_enter Try.func135, Try.ntmps135
      go_wp2
      go_ret
      exact ⟨by rw [E.out]; rfl, rfl⟩
    · have E : Hid (inR m n = false) := inB_false (fun h => b h.2)
      go_enter Try.func135, Try.ntmps135
      go_wp2
      go_ret
      exact ⟨by rw [E.out]; rfl, rfl⟩
  · have E : Hid (inR m n = false) := inB_false (fun h => a h.1)
    go_enter Try.func135, Try.ntmps135
    go_wp2
    go_ret
    exact ⟨by rw [E.out]; rfl, rfl⟩
theorem Within_any (n lo hi : Int) (w : World) :
    Calls Try.prog 27 #[.int .i64 n, .int .i64 lo, .int .i64 hi] w fun e w' => e = .returned (.bool (inB n lo hi)) ∧ w = w' := by
  by_cases a : lo ≤ n
  · by_cases b : n ≤ hi
    · have E : Hid (inB n lo hi = true) := inB_true ⟨a, b⟩
      go_enter Try.func27, Try.ntmps27
      go_wp2
      go_ret
      exact ⟨by rw [E.out]; rfl, rfl⟩
    · have E : Hid (inB n lo hi = false) := inB_false (fun h => b h.2)
      go_enter Try.func27, Try.ntmps27
      go_wp2
      go_ret
      exact ⟨by rw [E.out]; rfl, rfl⟩
  · have E : Hid (inB n lo hi = false) := inB_false (fun h => a h.1)
    go_enter Try.func27, Try.ntmps27
    go_wp2
    go_ret
    exact ⟨by rw [E.out]; rfl, rfl⟩

def szErr (m : Int) (xs : List Int) : Int := if xs.all (inR m) = true then 0 else 2
theorem szErr_drop (m : Int) (xs : List Int) (k : Nat) (h : k < xs.length) : szErr m (xs.drop k) = if inR m xs[k] = true then szErr m (xs.drop (k + 1)) else 2 := by
  unfold szErr
  rw [List.drop_eq_getElem_cons h, List.all_cons]
  cases inR m xs[k] <;> simp
set_option maxHeartbeats 400000 in
theorem SizeError_any (m : Int) (v : Value) (xs : List Int) (w : World) (h0 : 0 ≤ m) (h1 : m ≤ 1000000000000) (hs : Sl e1 1 w v xs) (hn : xs.length ≤ 1000000) :
    Calls Try.prog 86 #[.int .i64 m, v] w fun e w' => e = .returned (.int .i64 (szErr m xs)) ∧ w = w' := by
  obtain ⟨A, c, rfl, hcap⟩ := hs.form
  have HS := Lib.hid hs
  clear hs
  go_enter Try.func86, Try.ntmps86
  go_wp2_with fail
  go_loopw [6, 9] (fun _ i wr => ∃ k : Nat, k ≤ xs.length ∧ i = .int .i64 k ∧ szErr m (xs.drop k) = szErr m xs ∧ w = wr) (fun _ i _ => xs.length - (intOf i).toNat)
  case atStart => exact ⟨0, Nat.zero_le _, rfl, rfl, by trivial⟩
  case round =>
    obtain ⟨k, hk, rfl, hfb, rfl⟩ := hrel
    have HF := Lib.hid hfb
    clear hfb
    by_cases hlt : k < xs.length
    · obtain ⟨b, off, rfl, hbl, hc0⟩ := HS.out.at1 hlt
      have HD := Lib.hid (szErr_drop m xs k hlt)
      generalize xs[k] = y at *
      cases hy : inR m y
      · rw [hy] at HD
        go_wp2_with (go_at_call 135; refine (within_any _ _ _ (by omega) (by omega)).mono ?_; rintro e w' ⟨rfl, rfl⟩)
        go_ret
        exact ⟨ret_int (by rw [← HF.out, HD.out]; rfl), by trivial⟩
      · rw [hy] at HD
        go_wp2_with (go_at_call 135; refine (within_any _ _ _ (by omega) (by omega)).mono ?_; rintro e w' ⟨rfl, rfl⟩)
        go_roundw
        case rel => exact ⟨k + 1, by omega, by go_num, by rw [← HF.out, HD.out]; rfl, by trivial⟩
        case measure => simp [intOf]; omega
    · obtain rfl : k = xs.length := by omega
      go_wp2_with fail
      go_ret
      exact ⟨ret_int (by rw [← HF.out]; simp [szErr]), by trivial⟩
/-- A row of numbers that has just been laid. -/
theorem Sl.laid (w : World) (cs : Array Value) (xs : List Int) (t : TypeId) (hm : xs.length ≤ 1000000) (hs : cs.size = xs.length * 1) (hc : cs.toList = xs.flatMap e1) :
    Sl e1 1 (w.alloc (.cells cs t)) (.slice (some ⟨w.heap.size, 0, none⟩) xs.length xs.length) xs := (Ow.lit (base := w.heap.size) w cs xs (Nat.le_refl _) hm hs hc).sl e1_len
theorem sl1 (w : World) (a : Int) (t : TypeId) : Sl e1 1 (w.alloc (.cells #[.int .i64 a] t)) (.slice (some ⟨w.heap.size, 0, none⟩) 1 1) [a] := Sl.laid w #[.int .i64 a] [a] t (by simp) rfl rfl
theorem sl2 (w : World) (a b : Int) (t : TypeId) : Sl e1 1 (w.alloc (.cells #[.int .i64 a, .int .i64 b] t)) (.slice (some ⟨w.heap.size, 0, none⟩) 2 2) [a, b] := Sl.laid w #[.int .i64 a, .int .i64 b] [a, b] t (by simp) rfl rfl
theorem sl3 (w : World) (a b c : Int) (t : TypeId) : Sl e1 1 (w.alloc (.cells #[.int .i64 a, .int .i64 b, .int .i64 c] t)) (.slice (some ⟨w.heap.size, 0, none⟩) 3 3) [a, b, c] := Sl.laid w #[.int .i64 a, .int .i64 b, .int .i64 c] [a, b, c] t (by simp) rfl rfl
theorem placeErr_sz (p : Pt) : szErr 10000 [p.1, p.2] = placeErr p := by simp [szErr, placeErr, placeOk]
theorem placeError_any (p : Pt) (w : World) :
    Calls Try.prog 155 #[.agg #[.int .i64 p.1, .int .i64 p.2]] w fun e w' => e = .returned (.int .i64 (placeErr p)) ∧ Below w.heap.size w w' := by
  have E := Lib.hid (placeErr_sz p)
  obtain ⟨x, y⟩ := p
  have H := Lib.hid (sl2 w x y 61)
  simp only at *
  go_enter Try.func155, Try.ntmps155
  go_wp2_with (go_at_call 86; refine (SizeError_any _ _ [x, y] _ (by omega) (by omega) H.out (by simp)).mono ?_; rintro e w' ⟨rfl, rfl⟩)
  go_ret
  exact ⟨ret_int E.out, below_alloc1 _ _⟩
theorem isPlace_any (p : Pt) (w : World) :
    Calls Try.prog 132 #[.agg #[.int .i64 p.1, .int .i64 p.2]] w fun e w' => e = .returned (.bool (placeOk p)) ∧ Below w.heap.size w w' := by
  obtain ⟨x, y⟩ := p
  show Calls Try.prog 132 #[.agg #[.int .i64 x, .int .i64 y]] w _
  have E : Hid (placeOk (x, y) = (inB x (-10000) 10000 && inB y (-10000) 10000)) := rfl
  cases hx : inB x (-10000) 10000
  · go_enter Try.func132, Try.ntmps132
    go_wp2_with (go_at_call 27; refine (Within_any _ _ _ _).mono ?_; rintro e w' ⟨rfl, rfl⟩)
    go_ret
    exact ⟨by rw [E.out, hx]; rfl, (by repeat (first | assumption | exact Below.refl _ _ | refine below_al ?_ _ | refine below_dr ?_ | refine below_tr ?_ (by assumption)))⟩
  · go_enter Try.func132, Try.ntmps132
    go_wp2_with (go_at_call 27; refine (Within_any _ _ _ _).mono ?_; rintro e w' ⟨rfl, rfl⟩)
    go_ret
    exact ⟨by rw [E.out, hx]; rfl, (by repeat (first | assumption | exact Below.refl _ _ | refine below_al ?_ _ | refine below_dr ?_ | refine below_tr ?_ (by assumption)))⟩
end Go.Proofs.Ytegkppphaglpgaa
