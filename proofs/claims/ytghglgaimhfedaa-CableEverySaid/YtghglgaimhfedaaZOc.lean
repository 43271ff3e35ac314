/-
  Walks of chapter 1: the length that is enough for a box.
-/
import Derived.Test.YtghglgaimhfedaaZMv
namespace Go.Proofs.Ytghglgaimhfedaa
open Go.RowKit Go.Shelf

theorem run_field1 (w : World) (a b : Int) : (Instr.field 66 (.agg #[.int .i64 a, .int .i64 b]) 1).run Try.prog w = .ok (.int .i64 b) w := by kernel_rfl
theorem run_field0 (w : World) (a b : Int) : (Instr.field 66 (.agg #[.int .i64 a, .int .i64 b]) 0).run Try.prog w = .ok (.int .i64 a) w := by kernel_rfl
attribute [local go_sem] run_field0 run_field1
def enoughFor (l : Ln) (b : List (Int × Int)) : Int × Int := if boxShapeErr l b = 0 then ((totR lenR (pulls l b)).2, 0) else (0, boxShapeErr l b)
set_option maxRecDepth 100000 in
set_option maxHeartbeats 1000000 in
theorem EnoughFor_any (v u : Value) (l : Ln) (b : List (Int × Int)) (w : World) (hs : Sl e3 3 w v l.ks) (hu : Sl e2 2 w u b) (hbig : l.ks.length ≤ 1000) (hbig' : b.length ≤ 1000) :
    Calls Try.prog 60 #[.agg #[.int .i64 l.x, .int .i64 l.z, v], u] w fun e w' => e = .returned (.tuple #[.int .i64 (enoughFor l b).1, .int .i64 (enoughFor l b).2]) ∧ Below w.heap.size w w' := by
  have HC := Lib.hid (fun w' (hw : Below w.heap.size w w') => boxShapeError_any v u l b w' (hs.below hw) (hu.below hw) hbig hbig')
  by_cases h1 : boxShapeErr l b = 0
  · have E : Hid (enoughFor l b = ((totR lenR (pulls l b)).2, 0)) := if_pos h1
    obtain ⟨h2, h3⟩ := boxShape_ok h1
    obtain ⟨hl, hb⟩ := boxOk_of h2
    have hpos := pulls_pos hb h3
    have HT := Lib.hid (fun w' (hw : Below w.heap.size w w') => total_any 107 (enters_of Try.func107 (by kernel_rfl) rfl) lenR v u l b w' (hs.below hw) (hu.below hw) hl hb (fun p hp => ⟨by have := lenR_bd (pulls_ok hl hb p hp) (hpos p hp); omega, fun w => lengths_any p w (pulls_ok hl hb p hp) (hpos p hp)⟩))
    rw [h1] at HC
    obtain ⟨A, c, rfl, hcap⟩ := hs.form
    obtain ⟨A', c', rfl, hcap'⟩ := hu.form
    generalize totR lenR (pulls l b) = tt at *
    obtain ⟨tt1, tt2⟩ := tt
    simp only at HT
    clear hs hu h1 h2 h3 hl hb hpos
    have HX := Lib.hid (At.new w #[.int .i64 l.x, .int .i64 l.z, .slice A l.ks.length c] 26)
    go_enter Try.func60, Try.ntmps60
    go_wp2_with (first
      | (go_at_call 121; refine (HC.out _ (below_alloc1 _ _)).mono ?_; rintro e w1 ⟨rfl, hb1⟩; have HB := Lib.hid (below_tr (below_alloc1 _ _) hb1); obtain ⟨q0, _⟩ := (HX.out 0 _ rfl).below hb1; obtain ⟨q1, _⟩ := (HX.out 1 _ rfl).below hb1; obtain ⟨q2, _⟩ := (HX.out 2 _ rfl).below hb1; clear hb1)
      | (go_at_call 105; refine (HT.out _ HB.out).mono ?_; rintro e w2 ⟨rfl, hb2⟩))
    go_ret2
    exact ⟨ret_pair' E.out, below_tr HB.out hb2⟩
  · have E : Hid (enoughFor l b = (0, boxShapeErr l b)) := if_neg h1
    have h1' := ne1 h1
    generalize boxShapeErr l b = pe at *
    obtain ⟨A, c, rfl, hcap⟩ := hs.form
    obtain ⟨A', c', rfl, hcap'⟩ := hu.form
    clear h1 hs hu
    go_enter Try.func60, Try.ntmps60
    go_wp2_with (go_at_call 121; refine (HC.out _ (below_alloc1 _ _)).mono ?_; rintro e w2 ⟨rfl, hb1⟩)
    go_ret2
    exact ⟨ret_pair' E.out, below_tr (below_alloc1 _ _) hb1⟩
end Go.Proofs.Ytghglgaimhfedaa
