/-
  Walks of chapter 1's reference: which of two fractions is greater.
-/
import Derived.Test.YtghglgaimhfedaaZNe
namespace Go.Proofs.Ytghglgaimhfedaa
open Go.RowKit Go.Shelf
attribute [local go_sem] monoUpon_value monoUpon_skip monoUpon_enter

/-- The order of n/d and m/k. -/
def cmpF (n d m k : Int) : Int := if n * k < m * d then -1 else if m * d < n * k then 1 else 0
theorem cmp_split (n d m k : Int) (hd : 0 < d) (hk : 0 < k) :
    ∃ a b D, a = n - n / d * d ∧ b = m - m / k * k ∧ D = d * k ∧ n * k - m * d = (n / d - m / k) * D + (a * k - b * d) ∧ 0 ≤ a ∧ a < d ∧ 0 ≤ b ∧ b < k ∧ 0 ≤ a * k ∧ a * k < D ∧ 0 ≤ b * d ∧ b * d < D := by
  refine ⟨_, _, _, rfl, rfl, rfl, ?_⟩
  have h1 := Int.ediv_mul_le n (show d ≠ 0 by omega)
  have h2 := Int.lt_ediv_add_one_mul_self n hd
  have h3 := Int.ediv_mul_le m (show k ≠ 0 by omega)
  have h4 := Int.lt_ediv_add_one_mul_self m hk
  generalize n / d = p at *
  generalize m / k = q at *
  rw [Int.add_mul, Int.one_mul] at h2 h4
  have a0 : 0 ≤ n - p * d := by omega
  have a1 : n - p * d < d := by omega
  have b0 : 0 ≤ m - q * k := by omega
  have b1 : m - q * k < k := by omega
  refine ⟨?_, a0, a1, b0, b1, Int.mul_nonneg a0 (by omega), ?_, Int.mul_nonneg b0 (by omega), ?_⟩
  · rw [Int.sub_mul, Int.sub_mul, Int.sub_mul]
    have x1 : p * d * k = p * (d * k) := Int.mul_assoc _ _ _
    have x2 : q * k * d = q * (d * k) := by rw [Int.mul_assoc, Int.mul_comm k d]
    omega
  · exact Int.mul_lt_mul_of_pos_right a1 hk
  · rw [Int.mul_comm d k]; exact Int.mul_lt_mul_of_pos_right b1 hd
theorem cmp_less {n d m k : Int} (hd : 0 < d) (hk : 0 < k) (h : n / d < m / k) : cmpF n d m k = -1 := by
  obtain ⟨a, b, D, _, _, _, e, _, _, _, _, a0, a1, b0, b1⟩ := cmp_split n d m k hd hk
  have : (n / d - m / k) * D ≤ -1 * D := Int.mul_le_mul_of_nonneg_right (by omega) (by omega)
  unfold cmpF
  rw [if_pos (by omega)]
theorem cmp_more {n d m k : Int} (hd : 0 < d) (hk : 0 < k) (h : m / k < n / d) : cmpF n d m k = 1 := by
  obtain ⟨a, b, D, _, _, _, e, _, _, _, _, a0, a1, b0, b1⟩ := cmp_split n d m k hd hk
  have : 1 * D ≤ (n / d - m / k) * D := Int.mul_le_mul_of_nonneg_right (by omega) (by omega)
  unfold cmpF
  rw [if_neg (by omega), if_pos (by omega)]
/-- The whole parts are the same: the rest, turned round. -/
theorem cmp_same {n d m k : Int} (hd : 0 < d) (hk : 0 < k) (h : n / d = m / k) : ∃ a b, a = n - n / d * d ∧ b = m - m / k * k ∧ 0 ≤ a ∧ a < d ∧ 0 ≤ b ∧ b < k ∧
    (a = 0 → b = 0 → cmpF n d m k = 0) ∧ (a = 0 → 0 < b → cmpF n d m k = -1) ∧ (0 < a → b = 0 → cmpF n d m k = 1) ∧ cmpF k b d a = cmpF n d m k := by
  obtain ⟨a, b, D, ea, eb, _, e, a2, a3, b2, b3, a0, a1, b0, b1⟩ := cmp_split n d m k hd hk
  rw [h, Int.sub_self, Int.zero_mul] at e
  refine ⟨a, b, ea, eb, a2, a3, b2, b3, ?_, ?_, ?_, ?_⟩
  · rintro rfl rfl
    rw [Int.zero_mul, Int.zero_mul] at e
    unfold cmpF
    rw [if_neg (by omega), if_neg (by omega)]
  · rintro rfl hb
    rw [Int.zero_mul] at e
    have := Int.mul_pos hb hd
    unfold cmpF
    rw [if_pos (by omega)]
  · rintro ha rfl
    rw [Int.zero_mul] at e
    have := Int.mul_pos ha hk
    unfold cmpF
    rw [if_neg (by omega), if_pos (by omega)]
  · unfold cmpF
    rw [Int.mul_comm k a, Int.mul_comm d b]
    by_cases h1 : a * k < b * d
    · rw [if_pos h1, if_pos (by omega)]
    · by_cases h2 : b * d < a * k
      · rw [if_neg h1, if_pos h2, if_neg (by omega), if_pos (by omega)]
      · rw [if_neg h1, if_neg h2, if_neg (by omega), if_neg (by omega)]
set_option maxRecDepth 100000 in
set_option maxHeartbeats 2000000 in
theorem Compare_any (n d m k : Int) (w : World) (hn : 0 ≤ n ∧ n ≤ 1000000000000000000) (hd : 0 < d ∧ d ≤ 1000000000000000000) (hm : 0 ≤ m ∧ m ≤ 1000000000000000000) (hk : 0 < k ∧ k ≤ 1000000000000000000) :
    Calls Try.prog 116 #[.int .i64 n, .int .i64 d, .int .i64 m, .int .i64 k] w fun e w' => e = .returned (.int .i64 (cmpF n d m k)) ∧ Below w.heap.size w w' := by
  generalize hC : cmpF n d m k = C
  have HN := Lib.hid (And.intro hn (And.intro hd (And.intro hm hk)))
  have HC := Lib.hid hC
  clear hC hn hd hm hk
  go_enter Try.func116, Try.ntmps116
  go_wp2_with fail
  go_loopg [0, 1, 2, 3, 9, 10] (d + k).toNat (fun g v0 v1 v2 v3 _ _ wr => ∃ n d m k : Int, v0 = .int .i64 n ∧ v1 = .int .i64 d ∧ v2 = .int .i64 m ∧ v3 = .int .i64 k ∧ g = (d + k).toNat ∧ cmpF n d m k = C ∧ (0 ≤ n ∧ n ≤ 1000000000000000000) ∧ (0 < d ∧ d ≤ 1000000000000000000) ∧ (0 ≤ m ∧ m ≤ 1000000000000000000) ∧ (0 < k ∧ k ≤ 1000000000000000000) ∧ Below w.heap.size w wr)
  case atStart => exact ⟨n, d, m, k, rfl, rfl, rfl, rfl, rfl, HC.out, HN.out.1, HN.out.2.1, HN.out.2.2.1, HN.out.2.2.2, Below.refl _ _⟩
  case round =>
    obtain ⟨n, d, m, k, rfl, rfl, rfl, rfl, rfl, hc, hn, hd, hm, hk, hb⟩ := hrel
    have HB := Lib.hid hb
    have HF1 := Lib.hid (fun w => Floor_any n d w hd.1 hd.2 ⟨by omega, hn.2⟩)
    have HF2 := Lib.hid (fun w => Floor_any m k w hk.1 hk.2 ⟨by omega, hm.2⟩)
    have hp := div_bd hd.1 hn.1 hn.2
    have hq := div_bd hk.1 hm.1 hm.2
    have e1 := Int.ediv_mul_le n (show d ≠ 0 by omega)
    have e2 := Int.ediv_mul_le m (show k ≠ 0 by omega)
    have p1 := Int.mul_nonneg hp.1 (show 0 ≤ d by omega)
    have p2 := Int.mul_nonneg hq.1 (show 0 ≤ k by omega)
    have hw1 : IntKind.i64.wrap (n / d * d) = n / d * d := IntWalk.i64_in _ (by omega)
    have hw2 : IntKind.i64.wrap (m / k * k) = m / k * k := IntWalk.i64_in _ (by omega)
    have hw3 : IntKind.i64.wrap (n - n / d * d) = n - n / d * d := IntWalk.i64_in _ (by omega)
    have hw4 : IntKind.i64.wrap (m - m / k * k) = m - m / k * k := IntWalk.i64_in _ (by omega)
    by_cases hlt : n / d < m / k
    · have HE := Lib.hid ((cmp_less hd.1 hk.1 hlt).symm.trans hc)
      clear hb hc e1 e2 p1 p2 hp hq hn hd hm hk hw1 hw2 hw3 hw4
      generalize n / d = p at *
      generalize m / k = q at *
      go_wp2_with (first
        | (go_at_call_of 113 d; refine (HF1.out _).mono ?_; rintro e w' ⟨rfl, rfl⟩)
        | (go_at_call_of 113 k; refine (HF2.out _).mono ?_; rintro e w' ⟨rfl, rfl⟩))
      go_ret
      exact ⟨ret_int HE.out, HB.out⟩
    · by_cases hgt : m / k < n / d
      · have HE := Lib.hid ((cmp_more hd.1 hk.1 hgt).symm.trans hc)
        clear hb hc e1 e2 p1 p2 hp hq hn hd hm hk hw1 hw2 hw3 hw4
        generalize n / d = p at *
        generalize m / k = q at *
        go_wp2_with (first
          | (go_at_call_of 113 d; refine (HF1.out _).mono ?_; rintro e w' ⟨rfl, rfl⟩)
          | (go_at_call_of 113 k; refine (HF2.out _).mono ?_; rintro e w' ⟨rfl, rfl⟩))
        go_ret
        exact ⟨ret_int HE.out, HB.out⟩
      · obtain ⟨a, b, ea, eb, a0, a1, b0, b1, c1, c2, c3, c4⟩ := cmp_same hd.1 hk.1 (show n / d = m / k by omega)
        rw [hc] at c1 c2 c3 c4
        replace hw3 := hw3.trans ea.symm
        replace hw4 := hw4.trans eb.symm
        have hbd : a ≤ 1000000000000000000 ∧ b ≤ 1000000000000000000 := by omega
        have hdk : d + k ≤ 2000000000000000000 := by omega
        clear hb hc e1 e2 p1 p2 hp hq hn hm ea eb
        generalize n / d = p at *
        generalize m / k = q at *
        by_cases ha : a = 0
        · have ha' := eq0 ha
          by_cases hbz : b = 0
          · have HE := Lib.hid (c1 ha hbz)
            have hb' := eq0 hbz
            clear c1 c2 c3 c4 ha hbz
            go_wp2_with (first
              | (go_at_call_of 113 d; refine (HF1.out _).mono ?_; rintro e w' ⟨rfl, rfl⟩)
              | (go_at_call_of 113 k; refine (HF2.out _).mono ?_; rintro e w' ⟨rfl, rfl⟩))
            go_ret
            exact ⟨ret_int HE.out.symm, HB.out⟩
          · have HE := Lib.hid (c2 ha (by omega))
            have hb' := eq1 hbz
            clear c1 c2 c3 c4 ha hbz
            go_wp2_with (first
              | (go_at_call_of 113 d; refine (HF1.out _).mono ?_; rintro e w' ⟨rfl, rfl⟩)
              | (go_at_call_of 113 k; refine (HF2.out _).mono ?_; rintro e w' ⟨rfl, rfl⟩))
            go_ret
            exact ⟨ret_int HE.out.symm, HB.out⟩
        · have ha' := eq1 ha
          by_cases hbz : b = 0
          · have HE := Lib.hid (c3 (by omega) hbz)
            have hb' := eq0 hbz
            clear c1 c2 c3 c4 ha hbz
            go_wp2_with (first
              | (go_at_call_of 113 d; refine (HF1.out _).mono ?_; rintro e w' ⟨rfl, rfl⟩)
              | (go_at_call_of 113 k; refine (HF2.out _).mono ?_; rintro e w' ⟨rfl, rfl⟩))
            go_ret
            exact ⟨ret_int HE.out.symm, HB.out⟩
          · have HE := Lib.hid c4
            have hb' := eq1 hbz
            have HA := Lib.hid (And.intro (show 0 < a by omega) (And.intro a1 (And.intro (show 0 < b by omega) (And.intro b1 hbd))))
            have HD := Lib.hid (And.intro hd (And.intro hk hdk))
            clear c1 c2 c3 c4 ha hbz a0 a1 b0 b1 hd hk hdk hbd
            go_wp2_with (first
              | (go_at_call_of 113 d; refine (HF1.out _).mono ?_; rintro e w' ⟨rfl, rfl⟩)
              | (go_at_call_of 113 k; refine (HF2.out _).mono ?_; rintro e w' ⟨rfl, rfl⟩))
            go_roundg (b + a).toNat
            case measure => have := HA.out; have := HD.out; omega
            case rel => exact ⟨k, b, d, a, rfl, rfl, rfl, rfl, rfl, HE.out, by have := HD.out; omega, by have := HA.out; omega, by have := HD.out; omega, by have := HA.out; omega, HB.out⟩
end Go.Proofs.Ytghglgaimhfedaa
