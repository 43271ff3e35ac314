/-
  Walks of chapter 1's examples, which every statement checks first.
-/
import Derived.Test.YtegkppphaglpgaaLt
namespace Go.Proofs.Ytegkppphaglpgaa
open Go.RowKit Go.Shelf

def exLine : Ln := ⟨0, 100, [(10, 20, 3), (10, -20, 5), (5, 0, 0)]⟩
def exCur : List Int := [4, -2, 7]
def exBox : List (Int × Int) := [(2, 4), (-2, 0), (0, 9)]
theorem Line_any (w : World) : Calls Try.prog 83 #[] w fun e w' => ∃ v, e = .returned (.agg #[.int .i64 0, .int .i64 100, v]) ∧ Sl e3 3 w' v exLine.ks ∧ Below w.heap.size w w' := by
  go_enter Try.func83, Try.ntmps83
  go_wp2_with fail
  obtain ⟨W5, hW5⟩ : ∃ W5, W5 = ((w.alloc (.cells #[.int .i64 0, .int .i64 100, .slice (some ⟨w.heap.size + 1, 0, none⟩) 3 3] 26)).alloc (.cells #[.int .i64 10, .int .i64 20, .int .i64 3, .int .i64 10, .int .i64 (-20), .int .i64 5, .int .i64 5, .int .i64 0, .int .i64 0] 63)) := ⟨_, rfl⟩
  rw [← hW5]
  have bx := (box2 w #[.int .i64 0, .int .i64 100, .slice (some ⟨w.heap.size + 1, 0, none⟩) 3 3] #[.int .i64 10, .int .i64 20, .int .i64 3, .int .i64 10, .int .i64 (-20), .int .i64 5, .int .i64 5, .int .i64 0, .int .i64 0] 26 63).1
  rw [← hW5] at bx
  have s0 := (bx 0 _ rfl).1
  have s1 := (bx 1 _ rfl).1
  have s2 := (bx 2 _ rfl).1
  have HS : Sl e3 3 W5 (.slice (some ⟨w.heap.size + 1, 0, none⟩) 3 3) exLine.ks := by
    have h := (Ow.lit (enc := e3) (s := 3) (base := 0) (w.alloc (.cells #[.int .i64 0, .int .i64 100, .slice (some ⟨w.heap.size + 1, 0, none⟩) 3 3] 26)) #[.int .i64 10, .int .i64 20, .int .i64 3, .int .i64 10, .int .i64 (-20), .int .i64 5, .int .i64 5, .int .i64 0, .int .i64 0] (e := 63) exLine.ks (Nat.zero_le _) (by decide) rfl rfl).sl e3_len
    rw [hW5]
    rw [World.size_alloc] at h
    exact h
  have HB : Below w.heap.size w W5 := by rw [hW5]; exact below_al (below_alloc1 _ _) _
  clear bx hW5
  refine bodyPost_ret (v := .agg #[.int .i64 0, .int .i64 100, .slice (some ⟨w.heap.size + 1, 0, none⟩) 3 3]) ?_ rfl ⟨_, rfl, HS, HB⟩
  rw [results_cell rfl]
  go_simp
theorem Currents_any (w : World) : Calls Try.prog 84 #[] w fun e w' => ∃ v, e = .returned v ∧ Sl e1 1 w' v exCur ∧ Below w.heap.size w w' := by
  go_enter Try.func84, Try.ntmps84
  go_wp2_with fail
  go_ret
  exact ⟨_, rfl, sl3 w 4 (-2) 7 _, below_alloc1 _ _⟩
theorem Box_any (w : World) : Calls Try.prog 85 #[] w fun e w' => ∃ v, e = .returned v ∧ Sl e2 2 w' v exBox ∧ Below w.heap.size w w' := by
  have H := Lib.hid (fun t => (Ow.lit (enc := e2) (s := 2) (base := 0) w #[.int .i64 2, .int .i64 4, .int .i64 (-2), .int .i64 0, .int .i64 0, .int .i64 9] (e := t) exBox (Nat.zero_le _) (by decide) rfl rfl).sl e2_len)
  go_enter Try.func85, Try.ntmps85
  go_wp2_with fail
  go_ret
  exact ⟨_, rfl, H.out _, below_alloc1 _ _⟩
end Go.Proofs.Ytegkppphaglpgaa
