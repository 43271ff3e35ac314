/-
  Walks of chapter 1's layback over a box.
-/
import Derived.Test.YtegkppphaglpgaaLn
namespace Go.Proofs.Ytegkppphaglpgaa
open Go.RowKit Go.Shelf

def laybackIn (l : Ln) (b : List (Int × Int)) : (Int × Int) × Int := if boxShapeErr l b = 0 then (totR offR (pulls l b), 0) else ((0, 0), boxShapeErr l b)
theorem boxShape_ok {l : Ln} {b : List (Int × Int)} (h : boxShapeErr l b = 0) : boxErr l b = 0 ∧ slackErr l = 0 := by
  unfold boxShapeErr at h
  by_cases h1 : boxErr l b = 0
  · rw [if_pos h1] at h; exact ⟨h1, h⟩
  · rw [if_neg h1] at h; exact absurd h h1
theorem boxOk_of {l : Ln} {b : List (Int × Int)} (h : boxErr l b = 0) : LnOk l ∧ BoxOk l b := ⟨lineErr_ok (boxErr_ok h).1, boxErr1_ok (boxErr_ok h).2⟩
theorem pulls_pos {l : Ln} {b : List (Int × Int)} (hb : BoxOk l b) (h : slackErr l = 0) : ∀ p ∈ pulls l b, 0 < p.z := by
  intro p hp
  refine slackErr_ok h _ ?_
  have e : (pulls l b).map (·.z) = zs l := pullsF_zs _ _ _ _ _ hb.len
  rw [← e]
  exact List.mem_map.2 ⟨p, hp, rfl⟩
set_option maxHeartbeats 1000000 in
theorem LaybackIn_any (v u : Value) (l : Ln) (b : List (Int × Int)) (w : World) (hs : Sl e3 3 w v l.ks) (hu : Sl e2 2 w u b) (hbig : l.ks.length ≤ 1000) (hbig' : b.length ≤ 1000) :
    Calls Try.prog 59 #[.agg #[.int .i64 l.x, .int .i64 l.z, v], u] w fun e w' => e = .returned (.tuple #[.agg #[.int .i64 (laybackIn l b).1.1, .int .i64 (laybackIn l b).1.2], .int .i64 (laybackIn l b).2]) ∧ Below w.heap.size w w' := by
  have HC := Lib.hid (fun w' (hw : Below w.heap.size w w') => boxShapeError_any v u l b w' (hs.below hw) (hu.below hw) hbig hbig')
  by_cases h1 : boxShapeErr l b = 0
  · have E : Hid (laybackIn l b = (totR offR (pulls l b), 0)) := if_pos h1
    obtain ⟨h2, h3⟩ := boxShape_ok h1
    obtain ⟨hl, hb⟩ := boxOk_of h2
    have HT := Lib.hid (fun w' (hw : Below w.heap.size w w') => total_off v u l b w' (hs.below hw) (hu.below hw) hl hb (pulls_pos hb h3))
    rw [h1] at HC
    obtain ⟨A, c, rfl, hcap⟩ := hs.form
    obtain ⟨A', c', rfl, hcap'⟩ := hu.form
    generalize totR offR (pulls l b) = tt at *
    obtain ⟨tt1, tt2⟩ := tt
    simp only at HT
    clear hs hu h1 h2 h3 hl hb
    have HX := Lib.hid (box2 w #[.int .i64 l.x, .int .i64 l.z, .slice A l.ks.length c] #[.int .i64 0, .int .i64 0] 26 66)
    go_enter Try.func59, Try.ntmps59
    go_wp2_with (first
      | (go_at_call 120; refine (HC.out _ (below_al (below_alloc1 _ _) _)).mono ?_; rintro e w1 ⟨rfl, hb1⟩; have HB := Lib.hid (below_tr (below_al (below_alloc1 _ _) _) hb1); obtain ⟨q0, _⟩ := (HX.out.1 0 _ rfl).below hb1; obtain ⟨q1, _⟩ := (HX.out.1 1 _ rfl).below hb1; obtain ⟨q2, _⟩ := (HX.out.1 2 _ rfl).below hb1; have R0 := (HX.out.2 0 _ rfl).below hb1; have R1 := (HX.out.2 1 _ rfl).below hb1; have HR := Lib.hid (And.intro R0 R1); clear R0 R1 hb1)
      | (go_at_call 104; refine (HT.out _ HB.out).mono ?_; rintro e w2 ⟨rfl, hb2⟩; have R0 := HR.out.1.below hb2; have R1 := HR.out.2.below hb2; have HR2 := Lib.hid (And.intro R0 R1); have HB2 := Lib.hid (below_tr HB.out hb2); obtain ⟨r0, f0⟩ := R0; obtain ⟨r1, f1⟩ := R1; clear hb2))
    obtain ⟨W5, hW5⟩ : ∃ W5, W5 = (w2.setCell ⟨w.heap.size + 1, 0, none⟩ (.int .i64 tt1)).setCell ⟨w.heap.size + 1, 1, none⟩ (.int .i64 tt2) := ⟨_, rfl⟩
    rw [← hW5]
    obtain ⟨s0, _⟩ : At W5 ⟨w.heap.size + 1, 0, none⟩ (.int .i64 tt1) := by rw [hW5]; exact (HR2.out.1.set).other (by simp)
    obtain ⟨s1, _⟩ : At W5 ⟨w.heap.size + 1, 1, none⟩ (.int .i64 tt2) := by rw [hW5]; exact (HR2.out.2.other (by simp)).set
    have HB5 : Below w.heap.size w W5 := by rw [hW5]; exact below_set (below_set HB2.out (by simp) _) (by simp) _
    clear hW5
    (try simp only [Exit.inBlock, Exit.then])
    refine bodyPost_ret (v := .tuple #[.agg #[.int .i64 tt1, .int .i64 tt2], .int .i64 0]) ?_ rfl ⟨by rw [E.out], HB5⟩
    rw [results_cell_tmp rfl]
    go_simp
  · have E : Hid (laybackIn l b = ((0, 0), boxShapeErr l b)) := if_neg h1
    have h1' := ne1 h1
    generalize boxShapeErr l b = pe at *
    obtain ⟨A, c, rfl, hcap⟩ := hs.form
    obtain ⟨A', c', rfl, hcap'⟩ := hu.form
    clear h1 hs hu
    have HX := Lib.hid (box2 w #[.int .i64 l.x, .int .i64 l.z, .slice A l.ks.length c] #[.int .i64 0, .int .i64 0] 26 66)
    go_enter Try.func59, Try.ntmps59
    go_wp2_with (go_at_call 120; refine (HC.out _ (below_al (below_alloc1 _ _) _)).mono ?_; rintro e w2 ⟨rfl, hb1⟩; have HB2 := Lib.hid (below_tr (below_al (below_alloc1 _ _) _) hb1); have R0 := (HX.out.2 0 _ rfl).below hb1; have R1 := (HX.out.2 1 _ rfl).below hb1; have HR2 := Lib.hid (And.intro R0 R1); obtain ⟨r0, f0⟩ := R0; obtain ⟨r1, f1⟩ := R1; clear hb1)
    obtain ⟨W5, hW5⟩ : ∃ W5, W5 = (w2.setCell ⟨w.heap.size + 1, 0, none⟩ (.int .i64 0)).setCell ⟨w.heap.size + 1, 1, none⟩ (.int .i64 0) := ⟨_, rfl⟩
    rw [← hW5]
    obtain ⟨s0, _⟩ : At W5 ⟨w.heap.size + 1, 0, none⟩ (.int .i64 0) := by rw [hW5]; exact (HR2.out.1.set).other (by simp)
    obtain ⟨s1, _⟩ : At W5 ⟨w.heap.size + 1, 1, none⟩ (.int .i64 0) := by rw [hW5]; exact (HR2.out.2.other (by simp)).set
    have HB5 : Below w.heap.size w W5 := by rw [hW5]; exact below_set (below_set HB2.out (by simp) _) (by simp) _
    clear hW5
    (try simp only [Exit.inBlock, Exit.then])
    refine bodyPost_ret (v := .tuple #[.agg #[.int .i64 0, .int .i64 0], .int .i64 pe]) ?_ rfl ⟨by rw [E.out], HB5⟩
    rw [results_cell_tmp rfl]
    go_simp
end Go.Proofs.Ytegkppphaglpgaa
