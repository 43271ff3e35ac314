/-
  Walks of chapter 1: the layback and the length for currents, the length that is enough for a box.
-/
import Derived.Test.YtghglgaimhfedaaZMu
import Derived.Test.YtghglgaimhfedaaQL
import Derived.Test.YtghglgaimhfedaaQK
namespace Go.Proofs.Ytghglgaimhfedaa
open Go.RowKit Go.Shelf
attribute [local go_sem] monoUpon_value monoUpon_skip monoUpon_enter

def laybackOf (l : Ln) (c : List Int) : (Int × Int) × Int := if shapeErr l c = 0 then (totR offR (pulls l (still c)), 0) else ((0, 0), shapeErr l c)
set_option maxRecDepth 100000 in
set_option maxHeartbeats 1000000 in
theorem LaybackOf_any (v u : Value) (l : Ln) (cu : List Int) (w : World) (hs : Sl e3 3 w v l.ks) (hu : Sl e1 1 w u cu) (hbig : l.ks.length ≤ 1000) (hbig' : cu.length ≤ 1000) :
    Calls Try.prog 40 #[.agg #[.int .i64 l.x, .int .i64 l.z, v], u] w fun e w' => e = .returned (.tuple #[.agg #[.int .i64 (laybackOf l cu).1.1, .int .i64 (laybackOf l cu).1.2], .int .i64 (laybackOf l cu).2]) ∧ Below w.heap.size w w' := by
  have HC := Lib.hid (fun w' (hw : Below w.heap.size w w') => shapeError_any v u l cu w' (hs.below hw) (hu.below hw) hbig hbig')
  by_cases h1 : shapeErr l cu = 0
  · have E : Hid (laybackOf l cu = (totR offR (pulls l (still cu)), 0)) := if_pos h1
    obtain ⟨h2, h3⟩ := shape_ok h1
    obtain ⟨h4, h5⟩ := currentsErr_ok h2
    have hl := lineErr_ok h4
    have hb := cursErr_ok h5
    have hpos := pulls_pos hb h3
    have HT := Lib.hid (fun ub w' (hw : Below w.heap.size w w') (hub : Sl e2 2 w' ub (still cu)) => total_any 106 (enters_of Try.func106 (by kernel_rfl) rfl) offR v ub l (still cu) w' (hs.below hw) hub hl hb (fun p hp => ⟨by have := offR_bd (pulls_ok hl hb p hp) (hpos p hp); omega, fun w => offsets_any p w (pulls_ok hl hb p hp) (hpos p hp)⟩))
    have HST := Lib.hid (fun w' (hw : Below w.heap.size w w') => still_any u cu w' (hu.below hw) hbig')
    rw [h1] at HC
    obtain ⟨A, c, rfl, hcap⟩ := hs.form
    obtain ⟨A', c', rfl, hcap'⟩ := hu.form
    generalize totR offR (pulls l (still cu)) = tt at *
    obtain ⟨tt1, tt2⟩ := tt
    simp only at HT
    clear hs hu h1 h2 h3 h4 h5 hl hb hpos
    have HX := Lib.hid (box2 w #[.int .i64 l.x, .int .i64 l.z, .slice A l.ks.length c] #[.int .i64 0, .int .i64 0] 26 66)
    go_enter Try.func40, Try.ntmps40
    go_wp2_with (go_at_call 104; refine (HC.out _ (below_al (below_alloc1 _ _) _)).mono ?_; rintro e w1 ⟨rfl, hb1⟩; have HB := Lib.hid (below_tr (below_al (below_alloc1 _ _) _) hb1); have Q0 := (HX.out.1 0 _ rfl).below hb1; have Q1 := (HX.out.1 1 _ rfl).below hb1; have Q2 := (HX.out.1 2 _ rfl).below hb1; have R0 := (HX.out.2 0 _ rfl).below hb1; have R1 := (HX.out.2 1 _ rfl).below hb1; have HR := Lib.hid (And.intro Q0 (And.intro Q1 (And.intro Q2 (And.intro R0 R1)))); clear Q0 Q1 Q2 R0 R1 hb1)
    have HXW : Hid (∀ W, Below w1.drew.heap.size w1.drew W → (W.cell? ⟨w.heap.size, 0, none⟩ = some (.int .i64 l.x) ∧ W.cell? ⟨w.heap.size, 1, none⟩ = some (.int .i64 l.z) ∧ W.cell? ⟨w.heap.size, 2, none⟩ = some (.slice A l.ks.length c)) ∧ (At W ⟨w.heap.size + 1, 0, none⟩ (.int .i64 0) ∧ At W ⟨w.heap.size + 1, 1, none⟩ (.int .i64 0)) ∧ Below w.heap.size w W) := fun W h =>
      ⟨⟨(HR.out.1.drew.below h).1, (HR.out.2.1.drew.below h).1, (HR.out.2.2.1.drew.below h).1⟩, ⟨HR.out.2.2.2.1.drew.below h, HR.out.2.2.2.2.drew.below h⟩, below_tr HB.out (Below.trans (Below.drew (Below.refl _ _)) h)⟩
    clear HX HR
    refine wp_region_mono 5 [14, 15, 16, 17, 18] [[], [0], [], [2], [1, 3]] [fun v _ => v = .agg #[.int .i64 l.x, .int .i64 l.z, .slice A l.ks.length c], fun v _ => v = .agg #[.int .i64 l.x, .int .i64 l.z, .slice A l.ks.length c], fun v _ => v = .slice A' cu.length c', fun v w => Sl e2 2 w v (still cu), fun v _ => v = .agg #[.int .i64 tt1, .int .i64 tt2]] (by kernel_rfl) (by kernel_rfl) ⟨st_eq _, st_eq _, st_eq _, st_sl _ _ _, st_eq _, trivial⟩ ?_ ?_
    · simp only [List.take_succ_cons, List.take_zero, steps, and_true]
      refine ⟨?_, ?_, ?_, ?_, ?_⟩
      · intro x W hB _; simp only [putX, setX, List.foldl_cons, List.foldl_nil]; obtain ⟨⟨c0, c1, c2⟩, _⟩ := HXW.out W hB; refine ⟨?_⟩; go_simp; exact ⟨rfl, Below.refl _ _⟩
      · intro x W hB hN; simp only [needs, sAt, dAt] at hN; simp only [putX, setX, List.foldl_cons, List.foldl_nil]; refine ⟨?_⟩; go_simp; exact ⟨rfl, Below.refl _ _⟩
      · intro x W hB _; simp only [putX, setX, List.foldl_cons, List.foldl_nil]; refine ⟨?_⟩; go_simp; exact ⟨rfl, Below.refl _ _⟩
      · intro x W hB hN; simp only [needs, sAt, dAt] at hN; simp only [putX, setX, List.foldl_cons, List.foldl_nil]; refine ⟨?_⟩; go_simp; refine (HST.out _ (HXW.out W hB).2.2).mono ?_; rintro e w' ⟨r, rfl, hr, _, hb⟩; exact ⟨_, rfl, hr, hb⟩
      · intro x W hB hN; simp only [needs, sAt, dAt] at hN; simp only [putX, setX, List.foldl_cons, List.foldl_nil]; refine ⟨?_⟩; go_simp; refine (HT.out _ _ (HXW.out W hB).2.2 hN.2.1).mono ?_; rintro e w' ⟨rfl, hb⟩; exact ⟨_, rfl, rfl, hb⟩
    · intro y W hB hA
      simp only [allSp] at hA
      have q18 := hA.2.2.2.2.1
      obtain ⟨_, ⟨⟨r0, f0⟩, r1, f1⟩, hbw⟩ := HXW.out W hB
      have HA2 := Lib.hid (And.intro (show At W ⟨w.heap.size + 1, 0, none⟩ (.int .i64 0) from ⟨r0, f0⟩) (show At W ⟨w.heap.size + 1, 1, none⟩ (.int .i64 0) from ⟨r1, f1⟩))
      have HBW := Lib.hid hbw
      clear hA hB hbw
      simp only [putX, setX, List.foldl_cons, List.foldl_nil, List.drop_succ_cons, List.drop_zero, q18, List.setIfInBounds_toArray, List.set_cons_succ, List.set_cons_zero]
      clear q18
      go_wp2_with fail
      obtain ⟨W5, hW5⟩ : ∃ W5, W5 = (W.setCell ⟨w.heap.size + 1, 0, none⟩ (.int .i64 tt1)).setCell ⟨w.heap.size + 1, 1, none⟩ (.int .i64 tt2) := ⟨_, rfl⟩
      rw [← hW5]
      obtain ⟨s0, _⟩ : At W5 ⟨w.heap.size + 1, 0, none⟩ (.int .i64 tt1) := by rw [hW5]; exact (HA2.out.1.set).other (by simp)
      obtain ⟨s1, _⟩ : At W5 ⟨w.heap.size + 1, 1, none⟩ (.int .i64 tt2) := by rw [hW5]; exact (HA2.out.2.other (by simp)).set
      have HB5 : Below w.heap.size w W5 := by rw [hW5]; exact below_set (below_set HBW.out (by simp) _) (by simp) _
      clear hW5
      (try simp only [Exit.inBlock, Exit.then])
      refine bodyPost_ret (v := .tuple #[.agg #[.int .i64 tt1, .int .i64 tt2], .int .i64 0]) ?_ rfl ⟨by rw [E.out], HB5⟩
      rw [results_cell_tmp rfl]
      go_simp
  · have E : Hid (laybackOf l cu = ((0, 0), shapeErr l cu)) := if_neg h1
    have h1' := ne1 h1
    generalize shapeErr l cu = pe at *
    obtain ⟨A, c, rfl, hcap⟩ := hs.form
    obtain ⟨A', c', rfl, hcap'⟩ := hu.form
    clear h1 hs hu
    have HX := Lib.hid (box2 w #[.int .i64 l.x, .int .i64 l.z, .slice A l.ks.length c] #[.int .i64 0, .int .i64 0] 26 66)
    go_enter Try.func40, Try.ntmps40
    go_wp2_with (go_at_call 104; refine (HC.out _ (below_al (below_alloc1 _ _) _)).mono ?_; rintro e w2 ⟨rfl, hb1⟩; have HB2 := Lib.hid (below_tr (below_al (below_alloc1 _ _) _) hb1); have R0 := (HX.out.2 0 _ rfl).below hb1; have R1 := (HX.out.2 1 _ rfl).below hb1; have HR2 := Lib.hid (And.intro R0 R1); obtain ⟨r0, f0⟩ := R0; obtain ⟨r1, f1⟩ := R1; clear hb1)
    obtain ⟨W5, hW5⟩ : ∃ W5, W5 = (w2.setCell ⟨w.heap.size + 1, 0, none⟩ (.int .i64 0)).setCell ⟨w.heap.size + 1, 1, none⟩ (.int .i64 0) := ⟨_, rfl⟩
    rw [← hW5]
    obtain ⟨s0, _⟩ : At W5 ⟨w.heap.size + 1, 0, none⟩ (.int .i64 0) := by rw [hW5]; exact (HR2.out.1.set).other (by simp)
    obtain ⟨s1, _⟩ : At W5 ⟨w.heap.size + 1, 1, none⟩ (.int .i64 0) := by rw [hW5]; exact (HR2.out.2.other (by simp)).set
    have HB5 : Below w.heap.size w W5 := by rw [hW5]; exact below_set (below_set HB2.out (by simp) _) (by simp) _
    clear hW5
    (try simp only [Exit.inBlock, Exit.then])
    refine bodyPost_ret (v := .tuple #[.agg #[.int .i64 0, .int .i64 0], .int .i64 pe]) ?_ rfl ⟨by rw [E.out], HB5⟩
    rw [results_cell_tmp rfl]
    go_simp
def lengthOf (l : Ln) (c : List Int) : (Int × Int) × Int := if shapeErr l c = 0 then (totR lenR (pulls l (still c)), 0) else ((0, 0), shapeErr l c)
set_option maxRecDepth 100000 in
set_option maxHeartbeats 1000000 in
theorem LengthOf_any (v u : Value) (l : Ln) (cu : List Int) (w : World) (hs : Sl e3 3 w v l.ks) (hu : Sl e1 1 w u cu) (hbig : l.ks.length ≤ 1000) (hbig' : cu.length ≤ 1000) :
    Calls Try.prog 41 #[.agg #[.int .i64 l.x, .int .i64 l.z, v], u] w fun e w' => e = .returned (.tuple #[.agg #[.int .i64 (lengthOf l cu).1.1, .int .i64 (lengthOf l cu).1.2], .int .i64 (lengthOf l cu).2]) ∧ Below w.heap.size w w' := by
  have HC := Lib.hid (fun w' (hw : Below w.heap.size w w') => shapeError_any v u l cu w' (hs.below hw) (hu.below hw) hbig hbig')
  by_cases h1 : shapeErr l cu = 0
  · have E : Hid (lengthOf l cu = (totR lenR (pulls l (still cu)), 0)) := if_pos h1
    obtain ⟨h2, h3⟩ := shape_ok h1
    obtain ⟨h4, h5⟩ := currentsErr_ok h2
    have hl := lineErr_ok h4
    have hb := cursErr_ok h5
    have hpos := pulls_pos hb h3
    have HT := Lib.hid (fun ub w' (hw : Below w.heap.size w w') (hub : Sl e2 2 w' ub (still cu)) => total_any 107 (enters_of Try.func107 (by kernel_rfl) rfl) lenR v ub l (still cu) w' (hs.below hw) hub hl hb (fun p hp => ⟨by have := lenR_bd (pulls_ok hl hb p hp) (hpos p hp); omega, fun w => lengths_any p w (pulls_ok hl hb p hp) (hpos p hp)⟩))
    have HST := Lib.hid (fun w' (hw : Below w.heap.size w w') => still_any u cu w' (hu.below hw) hbig')
    rw [h1] at HC
    obtain ⟨A, c, rfl, hcap⟩ := hs.form
    obtain ⟨A', c', rfl, hcap'⟩ := hu.form
    generalize totR lenR (pulls l (still cu)) = tt at *
    obtain ⟨tt1, tt2⟩ := tt
    simp only at HT
    clear hs hu h1 h2 h3 h4 h5 hl hb hpos
    have HX := Lib.hid (box2 w #[.int .i64 l.x, .int .i64 l.z, .slice A l.ks.length c] #[.int .i64 0, .int .i64 0] 26 66)
    go_enter Try.func41, Try.ntmps41
    go_wp2_with (go_at_call 104; refine (HC.out _ (below_al (below_alloc1 _ _) _)).mono ?_; rintro e w1 ⟨rfl, hb1⟩; have HB := Lib.hid (below_tr (below_al (below_alloc1 _ _) _) hb1); have Q0 := (HX.out.1 0 _ rfl).below hb1; have Q1 := (HX.out.1 1 _ rfl).below hb1; have Q2 := (HX.out.1 2 _ rfl).below hb1; have R0 := (HX.out.2 0 _ rfl).below hb1; have R1 := (HX.out.2 1 _ rfl).below hb1; have HR := Lib.hid (And.intro Q0 (And.intro Q1 (And.intro Q2 (And.intro R0 R1)))); clear Q0 Q1 Q2 R0 R1 hb1)
    have HXW : Hid (∀ W, Below w1.drew.heap.size w1.drew W → (W.cell? ⟨w.heap.size, 0, none⟩ = some (.int .i64 l.x) ∧ W.cell? ⟨w.heap.size, 1, none⟩ = some (.int .i64 l.z) ∧ W.cell? ⟨w.heap.size, 2, none⟩ = some (.slice A l.ks.length c)) ∧ (At W ⟨w.heap.size + 1, 0, none⟩ (.int .i64 0) ∧ At W ⟨w.heap.size + 1, 1, none⟩ (.int .i64 0)) ∧ Below w.heap.size w W) := fun W h =>
      ⟨⟨(HR.out.1.drew.below h).1, (HR.out.2.1.drew.below h).1, (HR.out.2.2.1.drew.below h).1⟩, ⟨HR.out.2.2.2.1.drew.below h, HR.out.2.2.2.2.drew.below h⟩, below_tr HB.out (Below.trans (Below.drew (Below.refl _ _)) h)⟩
    clear HX HR
    refine wp_region_mono 5 [14, 15, 16, 17, 18] [[], [0], [], [2], [1, 3]] [fun v _ => v = .agg #[.int .i64 l.x, .int .i64 l.z, .slice A l.ks.length c], fun v _ => v = .agg #[.int .i64 l.x, .int .i64 l.z, .slice A l.ks.length c], fun v _ => v = .slice A' cu.length c', fun v w => Sl e2 2 w v (still cu), fun v _ => v = .agg #[.int .i64 tt1, .int .i64 tt2]] (by kernel_rfl) (by kernel_rfl) ⟨st_eq _, st_eq _, st_eq _, st_sl _ _ _, st_eq _, trivial⟩ ?_ ?_
    · simp only [List.take_succ_cons, List.take_zero, steps, and_true]
      refine ⟨?_, ?_, ?_, ?_, ?_⟩
      · intro x W hB _; simp only [putX, setX, List.foldl_cons, List.foldl_nil]; obtain ⟨⟨c0, c1, c2⟩, _⟩ := HXW.out W hB; refine ⟨?_⟩; go_simp; exact ⟨rfl, Below.refl _ _⟩
      · intro x W hB hN; simp only [needs, sAt, dAt] at hN; simp only [putX, setX, List.foldl_cons, List.foldl_nil]; refine ⟨?_⟩; go_simp; exact ⟨rfl, Below.refl _ _⟩
      · intro x W hB _; simp only [putX, setX, List.foldl_cons, List.foldl_nil]; refine ⟨?_⟩; go_simp; exact ⟨rfl, Below.refl _ _⟩
      · intro x W hB hN; simp only [needs, sAt, dAt] at hN; simp only [putX, setX, List.foldl_cons, List.foldl_nil]; refine ⟨?_⟩; go_simp; refine (HST.out _ (HXW.out W hB).2.2).mono ?_; rintro e w' ⟨r, rfl, hr, _, hb⟩; exact ⟨_, rfl, hr, hb⟩
      · intro x W hB hN; simp only [needs, sAt, dAt] at hN; simp only [putX, setX, List.foldl_cons, List.foldl_nil]; refine ⟨?_⟩; go_simp; refine (HT.out _ _ (HXW.out W hB).2.2 hN.2.1).mono ?_; rintro e w' ⟨rfl, hb⟩; exact ⟨_, rfl, rfl, hb⟩
    · intro y W hB hA
      simp only [allSp] at hA
      have q18 := hA.2.2.2.2.1
      obtain ⟨_, ⟨⟨r0, f0⟩, r1, f1⟩, hbw⟩ := HXW.out W hB
      have HA2 := Lib.hid (And.intro (show At W ⟨w.heap.size + 1, 0, none⟩ (.int .i64 0) from ⟨r0, f0⟩) (show At W ⟨w.heap.size + 1, 1, none⟩ (.int .i64 0) from ⟨r1, f1⟩))
      have HBW := Lib.hid hbw
      clear hA hB hbw
      simp only [putX, setX, List.foldl_cons, List.foldl_nil, List.drop_succ_cons, List.drop_zero, q18, List.setIfInBounds_toArray, List.set_cons_succ, List.set_cons_zero]
      clear q18
      go_wp2_with fail
      obtain ⟨W5, hW5⟩ : ∃ W5, W5 = (W.setCell ⟨w.heap.size + 1, 0, none⟩ (.int .i64 tt1)).setCell ⟨w.heap.size + 1, 1, none⟩ (.int .i64 tt2) := ⟨_, rfl⟩
      rw [← hW5]
      obtain ⟨s0, _⟩ : At W5 ⟨w.heap.size + 1, 0, none⟩ (.int .i64 tt1) := by rw [hW5]; exact (HA2.out.1.set).other (by simp)
      obtain ⟨s1, _⟩ : At W5 ⟨w.heap.size + 1, 1, none⟩ (.int .i64 tt2) := by rw [hW5]; exact (HA2.out.2.other (by simp)).set
      have HB5 : Below w.heap.size w W5 := by rw [hW5]; exact below_set (below_set HBW.out (by simp) _) (by simp) _
      clear hW5
      (try simp only [Exit.inBlock, Exit.then])
      refine bodyPost_ret (v := .tuple #[.agg #[.int .i64 tt1, .int .i64 tt2], .int .i64 0]) ?_ rfl ⟨by rw [E.out], HB5⟩
      rw [results_cell_tmp rfl]
      go_simp
  · have E : Hid (lengthOf l cu = ((0, 0), shapeErr l cu)) := if_neg h1
    have h1' := ne1 h1
    generalize shapeErr l cu = pe at *
    obtain ⟨A, c, rfl, hcap⟩ := hs.form
    obtain ⟨A', c', rfl, hcap'⟩ := hu.form
    clear h1 hs hu
    have HX := Lib.hid (box2 w #[.int .i64 l.x, .int .i64 l.z, .slice A l.ks.length c] #[.int .i64 0, .int .i64 0] 26 66)
    go_enter Try.func41, Try.ntmps41
    go_wp2_with (go_at_call 104; refine (HC.out _ (below_al (below_alloc1 _ _) _)).mono ?_; rintro e w2 ⟨rfl, hb1⟩; have HB2 := Lib.hid (below_tr (below_al (below_alloc1 _ _) _) hb1); have R0 := (HX.out.2 0 _ rfl).below hb1; have R1 := (HX.out.2 1 _ rfl).below hb1; have HR2 := Lib.hid (And.intro R0 R1); obtain ⟨r0, f0⟩ := R0; obtain ⟨r1, f1⟩ := R1; clear hb1)
    obtain ⟨W5, hW5⟩ : ∃ W5, W5 = (w2.setCell ⟨w.heap.size + 1, 0, none⟩ (.int .i64 0)).setCell ⟨w.heap.size + 1, 1, none⟩ (.int .i64 0) := ⟨_, rfl⟩
    rw [← hW5]
    obtain ⟨s0, _⟩ : At W5 ⟨w.heap.size + 1, 0, none⟩ (.int .i64 0) := by rw [hW5]; exact (HR2.out.1.set).other (by simp)
    obtain ⟨s1, _⟩ : At W5 ⟨w.heap.size + 1, 1, none⟩ (.int .i64 0) := by rw [hW5]; exact (HR2.out.2.other (by simp)).set
    have HB5 : Below w.heap.size w W5 := by rw [hW5]; exact below_set (below_set HB2.out (by simp) _) (by simp) _
    clear hW5
    (try simp only [Exit.inBlock, Exit.then])
    refine bodyPost_ret (v := .tuple #[.agg #[.int .i64 0, .int .i64 0], .int .i64 pe]) ?_ rfl ⟨by rw [E.out], HB5⟩
    rw [results_cell_tmp rfl]
    go_simp
end Go.Proofs.Ytghglgaimhfedaa
