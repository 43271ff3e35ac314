/-
  Walks of chapter 1's turns: the two exported calls; copies of paths; comparisons of lists.
-/
import Derived.Test.YtegkppphaglpgaaWc
namespace Go.Proofs.Ytegkppphaglpgaa
open Go.RowKit Go.Shelf

theorem ptinfo : (Try.prog.info? 61).map (fun i => (i.zero, i.size, i.bytes)) = some (some (.agg #[.int .i64 0, .int .i64 0]), 2, 16) := by kernel_rfl

def windingOf (path : List Pt) (p : Pt) : Int × Int := if pathErr path = 0 then (if postErr path p = 0 then (winding path p, 0) else (0, postErr path p)) else (0, pathErr path)
theorem post_place {path : List Pt} {p : Pt} (h : postErr path p = 0) : placeOk p = true := by
  cases hc : placeOk p
  · rw [postErr_bad hc] at h; omega
  · rfl
theorem ret_pair {q : Int × Int} {a b : Int} (h : q = (a, b)) : Ending.returned (.tuple #[.int .i64 a, .int .i64 b]) = .returned (.tuple #[.int .i64 q.1, .int .i64 q.2]) := by rw [h]
set_option maxHeartbeats 400000 in
theorem WindingOf_any (v : Value) (path : List Pt) (p : Pt) (w : World) (hs : Sl e2 2 w v path) (hbig : path.length ≤ 1000) :
    Calls Try.prog 73 #[v, .agg #[.int .i64 p.1, .int .i64 p.2]] w fun e w' => e = .returned (.tuple #[.int .i64 (windingOf path p).1, .int .i64 (windingOf path p).2]) ∧ Below w.heap.size w w' := by
  have HS := Lib.hid hs
  obtain ⟨A, c, rfl, hcap⟩ := hs.form
  clear hs
  have HP := Lib.hid (pathError_any _ path _ (HS.out.alloc (.cells #[.int .i64 p.1, .int .i64 p.2] 61)) hbig)
  by_cases h1 : pathErr path = 0
  · obtain ⟨hp1, hp2, hp3⟩ := pathErr_ok h1
    have hsm := ways_sm hp3
    have HQ := Lib.hid (fun w1 hb => postError_any _ path p w1 ((HS.out.alloc (.cells #[.int .i64 p.1, .int .i64 p.2] 61)).below (w' := w1) hb) hp1 hp2 hsm)
    rw [h1] at HP
    by_cases h2 : postErr path p = 0
    · have HW := Lib.hid (fun w1 hs => winding_any (.slice A path.length c) path p w1 hs hp1 hp2 hsm (Sm.of (post_place h2)))
      have E : Hid (windingOf path p = (winding path p, 0)) := by unfold Hid windingOf; rw [if_pos h1, if_pos h2]
      rw [h2] at HQ
      generalize winding path p = wn at *
      clear h1 h2 hsm hp3
      go_enter Try.func73, Try.ntmps73
      go_wp2_with (first
        | (go_at_call 127; refine HP.out.mono ?_; rintro e w1 ⟨rfl, hb1⟩; obtain ⟨q1, _⟩ := ((At.new w #[.int .i64 p.1, .int .i64 p.2] 61 0 _ rfl).below hb1); obtain ⟨q2, _⟩ := ((At.new w #[.int .i64 p.1, .int .i64 p.2] 61 1 _ rfl).below hb1); have HB1 := Lib.hid hb1; clear hb1)
        | (go_at_call 128; refine (HQ.out _ HB1.out).mono ?_; rintro e w2 ⟨rfl, hb2⟩; have q3 := (hb2.cell (p := ⟨w.heap.size, 0, none⟩) (cell_lt q1)).trans q1; have q4 := (hb2.cell (p := ⟨w.heap.size, 1, none⟩) (cell_lt q2)).trans q2; have HB2 := Lib.hid (below_tr (below_tr (below_alloc1 _ _) HB1.out) hb2); clear hb2)
        | (go_at_call 129; refine (HW.out _ (HS.out.below HB2.out)).mono ?_; rintro e w3 ⟨rfl, hb3⟩))
      go_ret2
      exact ⟨ret_pair E.out, below_tr HB2.out hb3⟩
    · have E : Hid (windingOf path p = (0, postErr path p)) := by unfold Hid windingOf; rw [if_pos h1, if_neg h2]
      have h2' := ne1 h2
      generalize postErr path p = pe at *
      clear h1 h2 hsm hp3
      go_enter Try.func73, Try.ntmps73
      go_wp2_with (first
        | (go_at_call 127; refine HP.out.mono ?_; rintro e w1 ⟨rfl, hb1⟩; obtain ⟨q1, _⟩ := ((At.new w #[.int .i64 p.1, .int .i64 p.2] 61 0 _ rfl).below hb1); obtain ⟨q2, _⟩ := ((At.new w #[.int .i64 p.1, .int .i64 p.2] 61 1 _ rfl).below hb1); have HB1 := Lib.hid hb1; clear hb1)
        | (go_at_call 128; refine (HQ.out _ HB1.out).mono ?_; rintro e w2 ⟨rfl, hb2⟩))
      go_ret2
      exact ⟨ret_pair E.out, below_tr (below_tr (below_alloc1 _ _) HB1.out) hb2⟩
  · have E : Hid (windingOf path p = (0, pathErr path)) := by unfold Hid windingOf; rw [if_neg h1]
    have h2' := ne1 h1
    generalize pathErr path = pe at *
    clear h1
    go_enter Try.func73, Try.ntmps73
    go_wp2_with (go_at_call 127; refine HP.out.mono ?_; rintro e w1 ⟨rfl, hb1⟩)
    go_ret2
    exact ⟨ret_pair E.out, below_tr (below_alloc1 _ _) hb1⟩

/-- The closure that checks a post. -/
theorem post1_any (Bx : Nat) (v : Value) (path : List Pt) (p : Pt) (w : World) (hb : w.cell? ⟨Bx, 0, none⟩ = some v) (hs : Sl e2 2 w v path) (h0 : 0 < path.length) (h30 : path.length ≤ 30) (hsm : ∀ x ∈ ways path, Sm x.1 ∧ Sm x.2) :
    Calls Try.prog 131 #[.agg #[.int .i64 p.1, .int .i64 p.2], .pointer (some ⟨Bx, 0, none⟩)] w fun e w' => e = .returned (.int .i64 (postErr path p)) ∧ Below w.heap.size w w' := by
  have HS := Lib.hid hs
  obtain ⟨A, c, rfl, hcap⟩ := hs.form
  have hl := cell_lt hb
  simp only at hl
  have HQ := Lib.hid (postError_any _ path p _ (HS.out.alloc (.cells #[.int .i64 p.1, .int .i64 p.2] 61)) h0 h30 hsm)
  clear hs hsm
  go_enter Try.func131, Try.ntmps131
  go_wp2_with (go_at_call 128; refine HQ.out.mono ?_; rintro e w2 ⟨rfl, hb2⟩)
  go_ret
  exact ⟨rfl, below_tr (below_alloc1 _ _) hb2⟩

set_option maxHeartbeats 400000 in
theorem CopyPath_any (v : Value) (path : List Pt) (w : World) (hs : Sl e2 2 w v path) (hbig : path.length ≤ 1000) :
    Calls Try.prog 74 #[v] w fun e w' => ∃ r, e = .returned r ∧ Ow e2 2 61 w.heap.size w' r path ∧ Below w.heap.size w w' := by
  have HS := Lib.hid hs
  obtain ⟨A, c, rfl, hcap⟩ := hs.form
  obtain ⟨i0, hi, hz0, hz1, hz2⟩ := info_parts ptinfo
  have ho : Ow e2 2 61 w.heap.size (w.alloc (.cells #[] 61)) (.slice (some ⟨w.heap.size, 0, none⟩) 0 0) [] := Ow.lit w #[] [] (Nat.le_refl _) (by simp) rfl rfl
  have HO := Lib.hid ho
  clear hs ho
  go_enter Try.func74, Try.ntmps74
  go_wp2_with (at_builtin; refine wpList_append_sl _ rfl _ _ 112 rfl w.heap.size 61 i0 _ 2 16 Try.underlying112 hi hz0 hz1 hz2 rfl (by decide) e2_len e2_one _ [] rfl HO.out _ _ _ path rfl (HS.out.alloc _) (by simp; omega) (by decide) (by simp) ?_; intro v1 w2 hown1 hg1; have HO2 := Lib.hid hown1; have HG := Lib.hid hg1; clear hown1 hg1)
  go_ret
  exact ⟨_, rfl, by simpa using HO2.out, HO.out.grown HG.out (below_alloc1 _ _) (Nat.le_refl _)⟩
end Go.Proofs.Ytegkppphaglpgaa
