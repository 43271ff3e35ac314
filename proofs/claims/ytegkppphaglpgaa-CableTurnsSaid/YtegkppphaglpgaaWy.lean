/-
  Walks of chapter 1's turns: the errors of paths and posts, in the program and in the reference.
-/
import Derived.Test.YtegkppphaglpgaaWx
import Derived.Test.YtegkppphaglpgaaWf
import Derived.StillTailTactics
namespace Go.Proofs.Ytegkppphaglpgaa
open Go.RowKit Go.Shelf

theorem ne0 {n : Int} (h : n = 0) : (n != 0) = false := by rw [bne_eq_false_iff_eq]; exact h
theorem ne1 {n : Int} (h : ¬ n = 0) : (n != 0) = true := by rw [bne_iff_ne]; exact h
theorem eq0 {n : Int} (h : n = 0) : (n == 0) = true := by rw [beq_iff_eq]; exact h
theorem eq1 {n : Int} (h : ¬ n = 0) : (n == 0) = false := by rw [beq_eq_false_iff_ne]; exact h

set_option maxHeartbeats 400000 in
theorem pathError_any (v : Value) (path : List Pt) (w : World) (hs : Sl e2 2 w v path) (hbig : path.length ≤ 1000) :
    Calls Try.prog 127 #[v] w fun e w' => e = .returned (.int .i64 (pathErr path)) ∧ Below w.heap.size w w' := by
  obtain ⟨A, c, rfl, hcap⟩ := hs.form
  have HS := Lib.hid hs
  clear hs
  by_cases h0 : path.length = 0
  · have h0' : ((path.length : Int) == 0) = true := eq0 (by omega)
    have E : Hid (pathErr path = 10) := by unfold Hid pathErr; rw [if_pos h0]
    clear h0
    go_enter Try.func127, Try.ntmps127
    go_wp2_with fail
    go_ret
    exact ⟨ret_int E.out.symm, Below.refl _ _⟩
  · have h0' : ((path.length : Int) == 0) = false := eq1 (by omega)
    by_cases h1 : 30 < path.length
    · have E : Hid (pathErr path = 8) := by unfold Hid pathErr; rw [if_neg h0, if_pos h1]
      go_enter Try.func127, Try.ntmps127
      go_wp2_with fail
      go_ret
      exact ⟨ret_int E.out.symm, Below.refl _ _⟩
    · have E : Hid (pathErr path = (fb placeErr path 0).2) := by unfold Hid pathErr; rw [if_neg h0, if_neg h1]
      go_enter Try.func127, Try.ntmps127
      go_wp2_with (go_at_call 130; refine (fb2_any 155 #[] (enters_of Try.func155 (by kernel_rfl) rfl) placeErr _ path _ HS.out hbig (fun _ => True) (fun _ _ _ _ => trivial) trivial (fun x _ W _ => placeError_any x W)).mono ?_; rintro e w1 ⟨rfl, hb1⟩)
      go_ret
      exact ⟨ret_int E.out.symm, hb1⟩

theorem fb_place (path : List Pt) (k : Nat) (h : k < path.length) : (fb placeErr (path.drop k) k).2 = if placeOk path[k] = true then (fb placeErr (path.drop (k + 1)) (k + 1)).2 else 2 := by
  rw [fb_drop placeErr path k h]
  unfold placeErr
  by_cases hp : placeOk path[k] = true
  · rw [if_pos hp, if_pos rfl, if_pos hp]
  · rw [if_neg hp, if_neg (by omega), if_neg hp]
set_option maxHeartbeats 400000 in
theorem PathErr_any (v : Value) (path : List Pt) (w : World) (hs : Sl e2 2 w v path) (hbig : path.length ≤ 1000) :
    Calls Try.prog 76 #[v] w fun e w' => e = .returned (.int .i64 (pathErr path)) ∧ Below w.heap.size w w' := by
  obtain ⟨A, c, rfl, hcap⟩ := hs.form
  have HS := Lib.hid hs
  clear hs
  by_cases h0 : path.length = 0
  · have h0' : ((path.length : Int) == 0) = true := eq0 (by omega)
    have E : Hid (pathErr path = 10) := by unfold Hid pathErr; rw [if_pos h0]
    clear h0
    go_enter Try.func76, Try.ntmps76
    go_wp2_with fail
    go_ret
    exact ⟨ret_int E.out.symm, Below.refl _ _⟩
  · have h0' : ((path.length : Int) == 0) = false := eq1 (by omega)
    by_cases h1 : 30 < path.length
    · have E : Hid (pathErr path = 8) := by unfold Hid pathErr; rw [if_neg h0, if_pos h1]
      go_enter Try.func76, Try.ntmps76
      go_wp2_with fail
      go_ret
      exact ⟨ret_int E.out.symm, Below.refl _ _⟩
    · have E : Hid (pathErr path = (fb placeErr (path.drop 0) 0).2) := by unfold Hid pathErr; rw [if_neg h0, if_neg h1]; rfl
      go_enter Try.func76, Try.ntmps76
      go_wp2_with fail
      go_loopw [3] (fun i wr => ∃ k : Nat, k ≤ path.length ∧ i = .int .i64 k ∧ (fb placeErr (path.drop k) k).2 = (fb placeErr (path.drop 0) 0).2 ∧ Below w.heap.size w wr) (fun i _ => path.length - (intOf i).toNat)
      case atStart => exact ⟨0, Nat.zero_le _, rfl, rfl, Below.refl _ _⟩
      case round =>
        obtain ⟨k, hk, rfl, hfb, hb⟩ := hrel
        have HF := Lib.hid hfb
        have HB := Lib.hid hb
        clear hfb
        by_cases hlt : k < path.length
        · obtain ⟨b, off, rfl, hbl, hc0, hc1⟩ := (HS.out.below hb).at2 hlt
          have hf := fb_place path k hlt
          have HD := Lib.hid hf
          have hp := isPlace_any path[k]
          have HP := Lib.hid hp
          clear hf hb hp
          cases hok : placeOk path[k]
          · rw [hok] at HP HD
            have HO := Lib.hid hok
            clear hok
            go_wp2_with (go_at_call 132; refine (HP.out _).mono ?_; rintro e w1 ⟨rfl, hb1⟩)
            go_ret
            exact ⟨ret_int (by rw [E.out, ← HF.out, HD.out]; rfl), below_tr HB.out hb1⟩
          · rw [hok] at HP HD
            have HO := Lib.hid hok
            clear hok
            go_wp2_with (go_at_call 132; refine (HP.out _).mono ?_; rintro e w1 ⟨rfl, hb1⟩)
            go_roundw
            case rel => exact ⟨k + 1, by omega, by go_num, by rw [← HF.out, HD.out]; rfl, below_tr HB.out hb1⟩
            case measure => simp [intOf]; omega
        · clear hb
          obtain rfl : k = path.length := by omega
          go_wp2
          go_ret
          exact ⟨ret_int (by rw [E.out, ← HF.out, fb_end _ _ _ (Nat.le_refl _)]), HB.out⟩
end Go.Proofs.Ytegkppphaglpgaa
