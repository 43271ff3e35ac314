/-
  Walks of chapter 1's errors of shapes.
-/
import Derived.Test.YtegkppphaglpgaaLl
namespace Go.Proofs.Ytegkppphaglpgaa
open Go.RowKit Go.Shelf

def shapeErr (l : Ln) (c : List Int) : Int := if currentsErr l c = 0 then slackErr l else currentsErr l c
def boxShapeErr (l : Ln) (b : List (Int × Int)) : Int := if boxErr l b = 0 then slackErr l else boxErr l b
theorem slackErr_ok {l : Ln} (h : slackErr l = 0) : ∀ z ∈ zs l, 0 < z := by
  unfold slackErr at h
  intro z hz
  by_cases h1 : (zs l).any (fun z => decide (z ≤ 0)) = true
  · rw [if_pos h1] at h; omega
  · have h2 : ¬ z ≤ 0 := fun hc => h1 (List.any_eq_true.2 ⟨z, hz, by simpa using hc⟩)
    omega
set_option maxHeartbeats 1000000 in
theorem shapeError_any (v u : Value) (l : Ln) (cu : List Int) (w : World) (hs : Sl e3 3 w v l.ks) (hu : Sl e1 1 w u cu) (hbig : l.ks.length ≤ 1000) (hbig' : cu.length ≤ 1000) :
    Calls Try.prog 103 #[.agg #[.int .i64 l.x, .int .i64 l.z, v], u] w fun e w' => e = .returned (.int .i64 (shapeErr l cu)) ∧ Below w.heap.size w w' := by
  have HC := Lib.hid (currentsError_any v u l cu _ (hs.alloc (.cells #[.int .i64 l.x, .int .i64 l.z, v] 26)) (hu.alloc (.cells #[.int .i64 l.x, .int .i64 l.z, v] 26)) hbig hbig')
  by_cases h1 : currentsErr l cu = 0
  · have hl := lineErr_ok (currentsErr_ok h1).1
    have E : Hid (shapeErr l cu = slackErr l) := if_pos h1
    have HS := Lib.hid (fun w' (hb : Below (w.alloc (.cells #[.int .i64 l.x, .int .i64 l.z, v] 26)).heap.size (w.alloc (.cells #[.int .i64 l.x, .int .i64 l.z, v] 26)) w') => slackError_any v l w' ((hs.alloc _).below hb) hl)
    rw [h1] at HC
    obtain ⟨A, c, rfl, hcap⟩ := hs.form
    obtain ⟨A', c', rfl, hcap'⟩ := hu.form
    generalize slackErr l = se at *
    clear hs hu h1 hl
    go_enter Try.func103, Try.ntmps103
    go_wp2_with (first
      | (go_at_call 98; refine HC.out.mono ?_; rintro e w1 ⟨rfl, hb1⟩; have HB := Lib.hid hb1; obtain ⟨q1, _⟩ := (At.new w #[.int .i64 l.x, .int .i64 l.z, .slice A l.ks.length c] 26 0 _ rfl).below hb1; obtain ⟨q2, _⟩ := (At.new w #[.int .i64 l.x, .int .i64 l.z, .slice A l.ks.length c] 26 1 _ rfl).below hb1; obtain ⟨q3, _⟩ := (At.new w #[.int .i64 l.x, .int .i64 l.z, .slice A l.ks.length c] 26 2 _ rfl).below hb1; clear hb1)
      | (go_at_call 140; refine (HS.out _ HB.out).mono ?_; rintro e w2 ⟨rfl, hb2⟩))
    go_ret
    exact ⟨ret_int E.out.symm, below_tr (below_tr (below_alloc1 _ _) HB.out) hb2⟩
  · have E : Hid (shapeErr l cu = currentsErr l cu) := if_neg h1
    have h1' := ne1 h1
    generalize currentsErr l cu = pe at *
    clear h1
    obtain ⟨A, c, rfl, hcap⟩ := hs.form
    obtain ⟨A', c', rfl, hcap'⟩ := hu.form
    clear hs hu
    go_enter Try.func103, Try.ntmps103
    go_wp2_with (go_at_call 98; refine HC.out.mono ?_; rintro e w1 ⟨rfl, hb1⟩)
    go_ret
    exact ⟨ret_int E.out.symm, below_tr (below_alloc1 _ _) hb1⟩
set_option maxHeartbeats 1000000 in
theorem boxShapeError_any (v u : Value) (l : Ln) (b : List (Int × Int)) (w : World) (hs : Sl e3 3 w v l.ks) (hu : Sl e2 2 w u b) (hbig : l.ks.length ≤ 1000) (hbig' : b.length ≤ 1000) :
    Calls Try.prog 120 #[.agg #[.int .i64 l.x, .int .i64 l.z, v], u] w fun e w' => e = .returned (.int .i64 (boxShapeErr l b)) ∧ Below w.heap.size w w' := by
  have HC := Lib.hid (boxError_any v u l b _ (hs.alloc (.cells #[.int .i64 l.x, .int .i64 l.z, v] 26)) (hu.alloc (.cells #[.int .i64 l.x, .int .i64 l.z, v] 26)) hbig hbig')
  by_cases h1 : boxErr l b = 0
  · have hl := lineErr_ok (boxErr_ok h1).1
    have E : Hid (boxShapeErr l b = slackErr l) := if_pos h1
    have HS := Lib.hid (fun w' (hb : Below (w.alloc (.cells #[.int .i64 l.x, .int .i64 l.z, v] 26)).heap.size (w.alloc (.cells #[.int .i64 l.x, .int .i64 l.z, v] 26)) w') => slackError_any v l w' ((hs.alloc _).below hb) hl)
    rw [h1] at HC
    obtain ⟨A, c, rfl, hcap⟩ := hs.form
    obtain ⟨A', c', rfl, hcap'⟩ := hu.form
    generalize slackErr l = se at *
    clear hs hu h1 hl
    go_enter Try.func120, Try.ntmps120
    go_wp2_with (first
      | (go_at_call 118; refine HC.out.mono ?_; rintro e w1 ⟨rfl, hb1⟩; have HB := Lib.hid hb1; obtain ⟨q1, _⟩ := (At.new w #[.int .i64 l.x, .int .i64 l.z, .slice A l.ks.length c] 26 0 _ rfl).below hb1; obtain ⟨q2, _⟩ := (At.new w #[.int .i64 l.x, .int .i64 l.z, .slice A l.ks.length c] 26 1 _ rfl).below hb1; obtain ⟨q3, _⟩ := (At.new w #[.int .i64 l.x, .int .i64 l.z, .slice A l.ks.length c] 26 2 _ rfl).below hb1; clear hb1)
      | (go_at_call 140; refine (HS.out _ HB.out).mono ?_; rintro e w2 ⟨rfl, hb2⟩))
    go_ret
    exact ⟨ret_int E.out.symm, below_tr (below_tr (below_alloc1 _ _) HB.out) hb2⟩
  · have E : Hid (boxShapeErr l b = boxErr l b) := if_neg h1
    have h1' := ne1 h1
    generalize boxErr l b = pe at *
    clear h1
    obtain ⟨A, c, rfl, hcap⟩ := hs.form
    obtain ⟨A', c', rfl, hcap'⟩ := hu.form
    clear hs hu
    go_enter Try.func120, Try.ntmps120
    go_wp2_with (go_at_call 118; refine HC.out.mono ?_; rintro e w1 ⟨rfl, hb1⟩)
    go_ret
    exact ⟨ret_int E.out.symm, below_tr (below_alloc1 _ _) hb1⟩
end Go.Proofs.Ytegkppphaglpgaa
