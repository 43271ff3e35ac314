/-
  Walks of chapter 1's comparison of bends: which of two fractions is greater.
-/
import Derived.Test.YtegkppphaglpgaaLr
import Derived.Deep.RegionWith
namespace Go.Proofs.Ytegkppphaglpgaa
open Go.RowKit Go.Shelf

/-- Is the first fraction greater? -/
def gtF (a b : Int × Int) : Bool := decide (b.1 * a.2 < a.1 * b.2)
theorem natMul_cast (x y : Int) (n m : Nat) (h1 : x = n) (h2 : y = m) : x * y = ((n * m / 18446744073709551616 : Nat) : Int) * 18446744073709551616 + ((n * m % 18446744073709551616 : Nat) : Int) ∧
    ((n * m % 18446744073709551616 : Nat) : Int) < 18446744073709551616 ∧ (0 : Int) ≤ ((n * m % 18446744073709551616 : Nat) : Int) := by
  subst h1; subst h2
  rw [← Int.natCast_mul]
  generalize n * m = k
  omega
theorem gtF_of (a1 a2 b1 b2 H1 L1 H2 L2 : Int) (e1 : a1 * b2 = H1 * 18446744073709551616 + L1) (e2 : b1 * a2 = H2 * 18446744073709551616 + L2) (l1 : L1 < 18446744073709551616 ∧ 0 ≤ L1) (l2 : L2 < 18446744073709551616 ∧ 0 ≤ L2) :
    (H2 < H1 ∨ (H1 = H2 ∧ L2 < L1) → gtF (a1, a2) (b1, b2) = true) ∧ (¬ (H2 < H1 ∨ (H1 = H2 ∧ L2 < L1)) → gtF (a1, a2) (b1, b2) = false) := by
  unfold gtF
  simp only [decide_eq_true_eq, decide_eq_false_iff_not]
  rw [e1, e2]
  omega
set_option maxRecDepth 100000 in
set_option maxHeartbeats 2000000 in
theorem greater_any (a b : Int × Int) (w : World) (h1 : 0 ≤ a.1 ∧ a.1 ≤ 4000000000000000000) (h2 : 0 ≤ a.2 ∧ a.2 ≤ 4000000000000000000) (h3 : 0 ≤ b.1 ∧ b.1 ≤ 4000000000000000000) (h4 : 0 ≤ b.2 ∧ b.2 ≤ 4000000000000000000) :
    Calls Try.prog 109 #[.agg #[.int .i64 a.1, .int .i64 a.2], .agg #[.int .i64 b.1, .int .i64 b.2]] w fun e w' => e = .returned (.bool (gtF a b)) ∧ Below w.heap.size w w' := by
  obtain ⟨a1, a2⟩ := a
  obtain ⟨b1, b2⟩ := b
  simp only at *
  obtain ⟨n1, hn1⟩ := Int.eq_ofNat_of_zero_le h1.1
  obtain ⟨n2, hn2⟩ := Int.eq_ofNat_of_zero_le h2.1
  obtain ⟨m1, hm1⟩ := Int.eq_ofNat_of_zero_le h3.1
  obtain ⟨m2, hm2⟩ := Int.eq_ofNat_of_zero_le h4.1
  have HM1 := Lib.hid (Mul64_any n1 m2 (by omega) (by omega))
  have HM2 := Lib.hid (Mul64_any m1 n2 (by omega) (by omega))
  obtain ⟨e1, l1, l1'⟩ := natMul_cast a1 b2 n1 m2 hn1 hm2
  obtain ⟨e2, l2, l2'⟩ := natMul_cast b1 a2 m1 n2 hm1 hn2
  have hw1 : IntKind.u64.wrap a1 = a1 := by rw [IntKind.wrap_u64]; omega
  have hw2 : IntKind.u64.wrap a2 = a2 := by rw [IntKind.wrap_u64]; omega
  have hw3 : IntKind.u64.wrap b1 = b1 := by rw [IntKind.wrap_u64]; omega
  have hw4 : IntKind.u64.wrap b2 = b2 := by rw [IntKind.wrap_u64]; omega
  rw [← hn1, ← hm2] at HM1
  rw [← hm1, ← hn2] at HM2
  clear hn1 hn2 hm1 hm2 h1 h2 h3 h4
  generalize ((n1 * m2 / 18446744073709551616 : Nat) : Int) = H1 at *
  generalize ((n1 * m2 % 18446744073709551616 : Nat) : Int) = L1 at *
  generalize ((m1 * n2 / 18446744073709551616 : Nat) : Int) = H2 at *
  generalize ((m1 * n2 % 18446744073709551616 : Nat) : Int) = L2 at *
  have hg := gtF_of a1 a2 b1 b2 H1 L1 H2 L2 e1 e2 ⟨l1, l1'⟩ ⟨l2, l2'⟩
  have yes := Lib.hid hg.1
  have no := Lib.hid hg.2
  clear hg e1 e2 l1 l1' l2 l2'
  have bx := Lib.hid (box2 w #[.int .i64 a1, .int .i64 a2] #[.int .i64 b1, .int .i64 b2] 75 75)
  by_cases c1 : H2 < H1
  · have E := Lib.hid (yes.out (.inl c1))
    go_enter Try.func109, Try.ntmps109
    go_wp2_with (first
      | (go_at_call_of 146 a1; refine (HM1.out _).mono ?_; rintro e w' ⟨rfl, rfl⟩)
      | (go_at_call_of 146 b1; refine (HM2.out _).mono ?_; rintro e w' ⟨rfl, rfl⟩))
    go_ret
    exact ⟨ret_bool E.out.symm, (by repeat (first | assumption | exact Below.refl _ _ | refine below_al ?_ _ | refine below_dr ?_ | refine below_tr ?_ (by assumption)))⟩
  · by_cases c2 : H1 = H2
    · by_cases c3 : L2 < L1
      · have E := Lib.hid (yes.out (.inr ⟨c2, c3⟩))
        have c2' : (H1 == H2) = true := by rw [beq_iff_eq]; exact c2
        clear c2
        go_enter Try.func109, Try.ntmps109
        go_wp2_with (first
          | (go_at_call_of 146 a1; refine (HM1.out _).mono ?_; rintro e w' ⟨rfl, rfl⟩)
          | (go_at_call_of 146 b1; refine (HM2.out _).mono ?_; rintro e w' ⟨rfl, rfl⟩))
        go_ret
        exact ⟨ret_bool E.out.symm, (by repeat (first | assumption | exact Below.refl _ _ | refine below_al ?_ _ | refine below_dr ?_ | refine below_tr ?_ (by assumption)))⟩
      · have E := Lib.hid (no.out (fun h => by omega))
        have c2' : (H1 == H2) = true := by rw [beq_iff_eq]; exact c2
        clear c2
        go_enter Try.func109, Try.ntmps109
        go_wp2_with (first
          | (go_at_call_of 146 a1; refine (HM1.out _).mono ?_; rintro e w' ⟨rfl, rfl⟩)
          | (go_at_call_of 146 b1; refine (HM2.out _).mono ?_; rintro e w' ⟨rfl, rfl⟩))
        go_ret
        exact ⟨ret_bool (by rw [E.out]; simp [c1, c3]), (by repeat (first | assumption | exact Below.refl _ _ | refine below_al ?_ _ | refine below_dr ?_ | refine below_tr ?_ (by assumption)))⟩
    · have E := Lib.hid (no.out (fun h => by omega))
      have c2' : (H1 == H2) = false := by rw [beq_eq_false_iff_ne]; exact c2
      clear c2
      go_enter Try.func109, Try.ntmps109
      go_wp2_with (first
        | (go_at_call_of 146 a1; refine (HM1.out _).mono ?_; rintro e w' ⟨rfl, rfl⟩)
        | (go_at_call_of 146 b1; refine (HM2.out _).mono ?_; rintro e w' ⟨rfl, rfl⟩))
      go_ret
      exact ⟨ret_bool (by rw [E.out]; simp [c1]), (by repeat (first | assumption | exact Below.refl _ _ | refine below_al ?_ _ | refine below_dr ?_ | refine below_tr ?_ (by assumption)))⟩
end Go.Proofs.Ytegkppphaglpgaa
