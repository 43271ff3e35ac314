/-
  The law CableBoxes, walked: pulls, squares, layback and length over a box are as the reference says, or the errors.
-/
import Derived.Test.YtekinmafdhgmpaaZOf
import Derived.Test.YtekinmafdhgmpaaZOb
import Derived.Test.YtekinmafdhgmpaaZOg
import Derived.Test.YtekinmafdhgmpaaZKp
import Derived.Test.YtekinmafdhgmpaaZMx
import Derived.Test.YtekinmafdhgmpaaZMg
namespace Go.Proofs.Ytekinmafdhgmpaa
open Go.RowKit Go.Shelf
attribute [local go_sem] monoUpon_value monoUpon_skip monoUpon_enter

theorem rBoxErr_any (v u : Value) (l : Ln) (b : List (Int × Int)) (w : World) (hs : Sl e3 3 w v l.ks) (hu : Sl e2 2 w u b) (hbig' : b.length ≤ 1000) :
    Calls Try.prog 18 #[.agg #[.int .i64 l.x, .int .i64 l.z, v], u] w fun e w' => e = .returned (.int .i64 (boxErr1 l b).2) ∧ Below w.heap.size w w' := by
  have HC := Lib.hid (fun w' (hw : Below w.heap.size w w') => rCheckBox_any v u l b w' (hs.below hw) (hu.below hw) hbig')
  obtain ⟨A, c, rfl, hcap⟩ := hs.form
  obtain ⟨A', c', rfl, hcap'⟩ := hu.form
  clear hs hu
  generalize boxErr1 l b = be at *
  obtain ⟨b1, b2⟩ := be
  simp only at *
  go_enter Try.func18, Try.ntmps18
  go_wp2_with (go_at_call 59; refine (HC.out _ (below_alloc1 _ _)).mono ?_; rintro e w1 ⟨rfl, hb1⟩)
  go_ret
  exact ⟨rfl, below_tr (below_alloc1 _ _) hb1⟩
theorem boxErr_line {l : Ln} {b : List (Int × Int)} (h : ¬ lineErr l = 0) : boxErr l b = lineErr l := by
  unfold boxErr checkBox; rw [if_neg h]; rfl
theorem boxErr_box {l : Ln} {b : List (Int × Int)} (h : lineErr l = 0) : boxErr l b = (boxErr1 l b).2 := by
  unfold boxErr checkBox; rw [if_pos h]
end Go.Proofs.Ytekinmafdhgmpaa
