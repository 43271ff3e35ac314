/-
  Walks of chapter 1's reference: the sharpest bend.
-/
import Derived.Test.YtekinmafdhgmpaaZNf
import Derived.Test.YtekinmafdhgmpaaQK
namespace Go.Proofs.Ytekinmafdhgmpaa
open Go.RowKit Go.Shelf
attribute [local go_sem] monoUpon_value monoUpon_skip monoUpon_enter

theorem gtF_cmp (a b : Int × Int) : gtF a b = decide (0 < cmpF a.1 a.2 b.1 b.2) := by
  unfold gtF cmpF
  by_cases h1 : a.1 * b.2 < b.1 * a.2
  · rw [if_pos h1]
    simp
    omega
  · rw [if_neg h1]
    by_cases h2 : b.1 * a.2 < a.1 * b.2
    · rw [if_pos h2]; simp [h2]
    · rw [if_neg h2]; simp; omega
/-- What a reference's fraction gives. -/
structure FrOk (q : Int × Int) : Prop where
  n0 : 0 ≤ q.1
  n1 : q.1 ≤ 1000000000000000000
  d0 : 0 < q.2
  d1 : q.2 ≤ 1000000000000000000
theorem bend_ok {a b : Int × Int} (ha : Fo a) (hb : Fo b) : FrOk (bend a b) := by
  have m1 := mul_bd a.1 b.2 20000 20000 ha.x ⟨by have := hb.z; omega, hb.z.2⟩
  have m2 := mul_bd b.1 a.2 20000 20000 hb.x ⟨by have := ha.z; omega, ha.z.2⟩
  have m3 := mul_bd (across a b) (across a b) 800000000 800000000 (by unfold across; omega) (by unfold across; omega)
  have n3 := mul_self_nn (across a b)
  have sa := sq_pos ha
  have sb := sq_pos hb
  have m4 : 0 < sq a * sq b := Int.mul_pos sa.1 sb.1
  have m5 := mul_bd (sq a) (sq b) 800000000 800000000 (by omega) (by omega)
  obtain ⟨⟨x0, x1⟩, y0, y1⟩ := low_bd (across a b * across a b) (sq a * sq b) 1000000000000000000 ⟨n3, by omega⟩ ⟨m4, by omega⟩
  exact ⟨x0, x1, Int.ediv_pos_of_pos_of_dvd m4 (by omega) (Int.gcd_dvd_right _ _), y1⟩
theorem bendsF_ok : ∀ {ts : List (Int × Int)}, (∀ t ∈ ts, Fo t) → ∀ q ∈ bendsF ts, FrOk q
  | [], _, q, h => by simp [bendsF] at h
  | [_], _, q, h => by simp [bendsF] at h
  | a :: b :: r, hf, q, h => by
    simp only [bendsF, List.mem_cons] at h
    rcases h with rfl | h
    · exact bend_ok (hf a (by simp)) (hf b (by simp))
    · exact bendsF_ok (ts := b :: r) (fun t ht => hf t (List.mem_cons_of_mem _ ht)) q h
/-- The index of the sharpest bend, and whether there is one. -/
def sharpR (bs : List (Int × Int)) : Int × Bool := if bs.length = 0 then (0, false) else ((sharpK bs bs.length : Int), true)
theorem ret_ok {q : Int × Bool} {a : Int} {b : Bool} (h : q = (a, b)) : Ending.returned (.tuple #[.int .i64 a, .bool b]) = .returned (.tuple #[.int .i64 q.1, .bool q.2]) := by subst h; rfl
end Go.Proofs.Ytekinmafdhgmpaa
