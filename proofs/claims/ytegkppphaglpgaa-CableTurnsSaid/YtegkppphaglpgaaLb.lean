/-
  Walks of chapter 1's checks of lines, in the reference; the errors of lines alone.
-/
import Derived.Test.YtegkppphaglpgaaLa
namespace Go.Proofs.Ytegkppphaglpgaa
open Go.RowKit

theorem inB_inR (m n : Int) : inR m n = inB n (-m) m := rfl
theorem inB_iff {n lo hi : Int} : inB n lo hi = true ↔ lo ≤ n ∧ n ≤ hi := by simp [inB]
theorem inB_no {n lo hi : Int} (h : inB n lo hi = false) : ¬ (lo ≤ n ∧ n ≤ hi) := by simpa [inB] using h
set_option maxRecDepth 100000 in
set_option maxHeartbeats 2000000 in
theorem rCheckLine_any (v : Value) (l : Ln) (w : World) (hs : Sl e3 3 w v l.ks) (hbig : l.ks.length ≤ 1000) :
    Calls Try.prog 22 #[.agg #[.int .i64 l.x, .int .i64 l.z, v]] w fun e w' => e = .returned (.tuple #[.int .i64 (checkLine l).1, .int .i64 (checkLine l).2]) ∧ Below w.heap.size w w' := by
  have HS := Lib.hid hs
  obtain ⟨A, c, rfl, hcap⟩ := hs.form
  clear hs
  obtain ⟨x, z, ks⟩ := l
  simp only at *
  have both : Hid (inB x (-10000) 10000 = true → inB z (-10000) 10000 = true → checkLine ⟨x, z, ks⟩ = if ks.length = 0 then (0, 10) else if 10 < ks.length then (0, 8) else fb linkErr ks 0) := fun h1 h2 => if_pos ⟨h1, h2⟩
  have bad : Hid (¬ (inB x (-10000) 10000 = true ∧ inB z (-10000) 10000 = true) → checkLine ⟨x, z, ks⟩ = (0, 2)) := fun h => if_neg h
  cases hx : inB x (-10000) 10000
  · have E := Lib.hid (bad.out (by rw [hx]; simp))
    clear both bad
    go_enter Try.func22, Try.ntmps22
    go_wp2_with (go_at_call 27; refine (Within_any _ _ _ _).mono ?_; rintro e w' ⟨rfl, rfl⟩)
    go_ret2
    exact ⟨ret_pair' E.out, below_alloc1 _ _⟩
  · cases hz : inB z (-10000) 10000
    · have E := Lib.hid (bad.out (by rw [hz]; simp))
      clear both bad
      go_enter Try.func22, Try.ntmps22
      go_wp2_with (go_at_call 27; refine (Within_any _ _ _ _).mono ?_; rintro e w' ⟨rfl, rfl⟩)
      go_ret2
      exact ⟨ret_pair' E.out, below_alloc1 _ _⟩
    · have E0 := both.out hx hz
      clear both bad
      by_cases h0 : ks.length = 0
      · rw [if_pos h0] at E0
        have E := Lib.hid E0
        have h0' := eq0 (n := (ks.length : Int)) (by omega)
        clear E0 h0
        go_enter Try.func22, Try.ntmps22
        go_wp2_with (go_at_call 27; refine (Within_any _ _ _ _).mono ?_; rintro e w' ⟨rfl, rfl⟩)
        go_ret2
        exact ⟨ret_pair' E.out, below_alloc1 _ _⟩
      · rw [if_neg h0] at E0
        have h0' := eq1 (n := (ks.length : Int)) (by omega)
        clear h0
        by_cases h1 : 10 < ks.length
        · rw [if_pos h1] at E0
          have E := Lib.hid E0
          clear E0
          go_enter Try.func22, Try.ntmps22
          go_wp2_with (go_at_call 27; refine (Within_any _ _ _ _).mono ?_; rintro e w' ⟨rfl, rfl⟩)
          go_ret2
          exact ⟨ret_pair' E.out, below_alloc1 _ _⟩
        · rw [if_neg h1] at E0
          have E := Lib.hid E0
          clear E0
          go_enter Try.func22, Try.ntmps22
          go_wp2_with (go_at_call 27; refine (Within_any _ _ _ _).mono ?_; rintro e w' ⟨rfl, rfl⟩)
          go_loopw [5, 6] (fun i _ wr => ∃ k : Nat, k ≤ ks.length ∧ i = .int .i64 k ∧ fb linkErr (ks.drop k) k = fb linkErr ks 0 ∧ Below w.heap.size w wr ∧ At wr ⟨w.heap.size, 2, none⟩ (.slice A ks.length c)) (fun i _ _ => ks.length - (intOf i).toNat)
          case atStart => exact ⟨0, Nat.zero_le _, rfl, rfl, below_alloc1 _ _, At.new w #[.int .i64 x, .int .i64 z, .slice A ks.length c] 26 2 _ rfl⟩
          case round =>
            obtain ⟨k, hk, rfl, hfb, hb, hat⟩ := hrel
            have HF := Lib.hid hfb
            have HB := Lib.hid hb
            have HA := Lib.hid hat
            have ha := hat.1
            clear hfb hat hx hz
            by_cases hlt : k < ks.length
            · obtain ⟨b, off, rfl, hbl, hc0, hc1, hc2⟩ := (HS.out.below hb).at3 hlt
              have hf := fb_drop linkErr ks k hlt
              have HD := Lib.hid hf
              clear hf hb
              have hle : linkErr ks[k] = if 1 ≤ ks[k].1 ∧ ks[k].1 ≤ 1000 ∧ -1000 ≤ ks[k].2.1 ∧ ks[k].2.1 ≤ 1000 ∧ 0 ≤ ks[k].2.2 ∧ ks[k].2.2 ≤ 20 then 0 else 2 := rfl
              rw [hle] at HD
              clear hle
              generalize ks[k] = kk at *
              obtain ⟨q1, q2, q3⟩ := kk
              simp only at *
              cases g1 : inB q1 1 1000
              · have hn := inB_no g1
                rw [if_neg (by omega), if_neg (by omega)] at HD
                go_wp2_with (go_at_call 27; refine (Within_any _ _ _ _).mono ?_; rintro e w' ⟨rfl, rfl⟩)
                go_ret2
                exact ⟨ret_pair' (by rw [E.out, ← HF.out, HD.out]), below_al HB.out _⟩
              · have hy1 := inB_iff.1 g1
                cases g2 : inB q2 (-1000) 1000
                · have hn := inB_no g2
                  rw [if_neg (by omega), if_neg (by omega)] at HD
                  go_wp2_with (go_at_call 27; refine (Within_any _ _ _ _).mono ?_; rintro e w' ⟨rfl, rfl⟩)
                  go_ret2
                  exact ⟨ret_pair' (by rw [E.out, ← HF.out, HD.out]), below_al HB.out _⟩
                · have hy2 := inB_iff.1 g2
                  cases g3 : inB q3 0 20
                  · have hn := inB_no g3
                    rw [if_neg (by omega), if_neg (by omega)] at HD
                    go_wp2_with (go_at_call 27; refine (Within_any _ _ _ _).mono ?_; rintro e w' ⟨rfl, rfl⟩)
                    go_ret2
                    exact ⟨ret_pair' (by rw [E.out, ← HF.out, HD.out]), below_al HB.out _⟩
                  · have hy3 := inB_iff.1 g3
                    rw [if_pos (by omega)] at HD

                    go_wp2_with (go_at_call 27; refine (Within_any _ _ _ _).mono ?_; rintro e w' ⟨rfl, rfl⟩)
                    go_roundw
                    case rel => exact ⟨k + 1, by omega, by go_num, by rw [← HF.out, HD.out], below_al HB.out _, HA.out.al _⟩
                    case measure => simp [intOf]; omega
            · clear hb
              obtain rfl : k = ks.length := by omega
              go_wp2_with fail
              go_ret2
              exact ⟨ret_pair' (by rw [E.out, ← HF.out, fb_end _ _ _ (Nat.le_refl _)]), HB.out⟩

set_option maxHeartbeats 400000 in
theorem lineError_any (v : Value) (l : Ln) (w : World) (hs : Sl e3 3 w v l.ks) (hbig : l.ks.length ≤ 1000) :
    Calls Try.prog 94 #[.agg #[.int .i64 l.x, .int .i64 l.z, v]] w fun e w' => e = .returned (.int .i64 (lineErr l)) ∧ Below w.heap.size w w' := by
  have HC := Lib.hid (CheckLine_any v l _ (hs.alloc (.cells #[.int .i64 l.x, .int .i64 l.z, v] 26)) hbig)
  obtain ⟨A, c, rfl, hcap⟩ := hs.form
  clear hs
  go_enter Try.func94, Try.ntmps94
  go_wp2_with (go_at_call 16; refine HC.out.mono ?_; rintro e w1 ⟨rfl, hb1⟩)
  go_ret
  exact ⟨rfl, below_tr (below_alloc1 _ _) hb1⟩
set_option maxHeartbeats 400000 in
theorem LineErr_any (v : Value) (l : Ln) (w : World) (hs : Sl e3 3 w v l.ks) (hbig : l.ks.length ≤ 1000) :
    Calls Try.prog 33 #[.agg #[.int .i64 l.x, .int .i64 l.z, v]] w fun e w' => e = .returned (.int .i64 (lineErr l)) ∧ Below w.heap.size w w' := by
  have HC := Lib.hid (rCheckLine_any v l _ (hs.alloc (.cells #[.int .i64 l.x, .int .i64 l.z, v] 26)) hbig)
  obtain ⟨A, c, rfl, hcap⟩ := hs.form
  clear hs
  go_enter Try.func33, Try.ntmps33
  go_wp2_with (go_at_call 22; refine HC.out.mono ?_; rintro e w1 ⟨rfl, hb1⟩)
  go_ret
  exact ⟨rfl, below_tr (below_alloc1 _ _) hb1⟩
end Go.Proofs.Ytegkppphaglpgaa
