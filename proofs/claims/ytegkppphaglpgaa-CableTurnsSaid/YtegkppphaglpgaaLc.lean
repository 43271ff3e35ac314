/-
  Walks of chapter 1's checks of boxes and currents.
-/
import Derived.Test.YtegkppphaglpgaaLb
namespace Go.Proofs.Ytegkppphaglpgaa
open Go.RowKit

theorem box1_any (r : Int × Int) (w : World) :
    Calls Try.prog 92 #[.agg #[.int .i64 r.1, .int .i64 r.2]] w fun e w' => e = .returned (.int .i64 (rangeErr 50 r)) ∧ Below w.heap.size w w' := by
  have HO := Lib.hid (fun w => RangeError_any r 50 w (by omega) (by omega))
  obtain ⟨lo, hi⟩ := r
  simp only at *
  go_enter Try.func92, Try.ntmps92
  go_wp2_with (go_at_call 93; refine (HO.out _).mono ?_; rintro e w1 ⟨rfl, hb1⟩)
  go_ret
  exact ⟨rfl, below_tr (below_alloc1 _ _) hb1⟩
theorem cursErr_sz (cu : List Int) : szErr 50 cu = (fb curErr cu 0).2 := by
  have : ∀ (i : Nat), szErr 50 cu = (fb curErr cu i).2 := by
    induction cu with
    | nil => intro i; rfl
    | cons x r ih =>
      intro i
      rw [fb]
      unfold curErr szErr at *
      cases h : inR 50 x
      · simp [h]
      · simp only [h, List.all_cons, Bool.true_and, if_true]; exact ih (i + 1)
  exact this 0
theorem lenb {a b : Nat} (h : a = b) : ((a : Int) != (b : Int)) = false := by rw [bne_eq_false_iff_eq]; omega
theorem lenb' {a b : Nat} (h : ¬ a = b) : ((a : Int) != (b : Int)) = true := by rw [bne_iff_ne]; omega
set_option maxHeartbeats 1000000 in
theorem CheckBox_any (v u : Value) (l : Ln) (b : List (Int × Int)) (w : World) (hs : Sl e3 3 w v l.ks) (hu : Sl e2 2 w u b) (hbig : l.ks.length ≤ 1000) (hbig' : b.length ≤ 1000) :
    Calls Try.prog 18 #[.agg #[.int .i64 l.x, .int .i64 l.z, v], u] w fun e w' => e = .returned (.tuple #[.int .i64 (checkBox l b).1, .int .i64 (checkBox l b).2]) ∧ Below w.heap.size w w' := by
  obtain ⟨A, c, rfl, hcap⟩ := hs.form
  obtain ⟨A', c', rfl, hcap'⟩ := hu.form
  have HC := Lib.hid (CheckLine_any _ l _ (hs.alloc (.cells #[.int .i64 l.x, .int .i64 l.z, .slice A l.ks.length c] 26)) hbig)
  have HU := Lib.hid (hu.alloc (.cells #[.int .i64 l.x, .int .i64 l.z, .slice A l.ks.length c] 26))
  clear hs hu
  by_cases h1 : lineErr l = 0
  · have E0 : checkBox l b = boxErr1 l b := if_pos h1
    rw [checkLine_ok h1] at HC
    clear h1
    by_cases h2 : b.length = l.ks.length
    · have E : Hid (checkBox l b = fb (rangeErr 50) b 0) := E0.trans (if_pos h2)
      have h2' := lenb h2
      clear E0 h2
      go_enter Try.func18, Try.ntmps18
      go_wp2_with (first
        | (go_at_call 16; refine HC.out.mono ?_; rintro e w1 ⟨rfl, hb1⟩; obtain ⟨q1, _⟩ := (At.new w #[.int .i64 l.x, .int .i64 l.z, .slice A l.ks.length c] 26 2 _ rfl).below hb1; have HB1 := Lib.hid hb1; clear hb1)
        | (go_at_call 91; refine (fbr_any 92 #[] (enters_of Try.func92 (by kernel_rfl) rfl) (rangeErr 50) _ b _ (HU.out.below HB1.out) hbig' (fun _ => True) (fun _ _ _ _ => trivial) trivial (fun k _ W _ => box1_any k W)).mono ?_; rintro e w2 ⟨rfl, hb2⟩))
      go_ret2
      exact ⟨by rw [E.out]; rfl, below_tr (below_tr (below_alloc1 _ _) HB1.out) hb2⟩
    · have E : Hid (checkBox l b = (0, 10)) := E0.trans (if_neg h2)
      have h2' := lenb' h2
      clear E0 h2
      go_enter Try.func18, Try.ntmps18
      go_wp2_with (go_at_call 16; refine HC.out.mono ?_; rintro e w1 ⟨rfl, hb1⟩; obtain ⟨q1, _⟩ := (At.new w #[.int .i64 l.x, .int .i64 l.z, .slice A l.ks.length c] 26 2 _ rfl).below hb1; have HB1 := Lib.hid hb1; clear hb1)
      go_ret2
      exact ⟨ret_pair' E.out, below_tr (below_alloc1 _ _) HB1.out⟩
  · have E : Hid (checkBox l b = checkLine l) := if_neg h1
    have h1' : ((checkLine l).2 != 0) = true := ne1 h1
    generalize checkLine l = q at *
    obtain ⟨q1, q2⟩ := q
    clear h1
    simp only at *
    go_enter Try.func18, Try.ntmps18
    go_wp2_with (go_at_call 16; refine HC.out.mono ?_; rintro e w1 ⟨rfl, hb1⟩)
    go_ret2
    exact ⟨ret_pair' E.out, below_tr (below_alloc1 _ _) hb1⟩
set_option maxHeartbeats 400000 in
theorem boxError_any (v u : Value) (l : Ln) (b : List (Int × Int)) (w : World) (hs : Sl e3 3 w v l.ks) (hu : Sl e2 2 w u b) (hbig : l.ks.length ≤ 1000) (hbig' : b.length ≤ 1000) :
    Calls Try.prog 118 #[.agg #[.int .i64 l.x, .int .i64 l.z, v], u] w fun e w' => e = .returned (.int .i64 (boxErr l b)) ∧ Below w.heap.size w w' := by
  have HC := Lib.hid (CheckBox_any v u l b _ (hs.alloc (.cells #[.int .i64 l.x, .int .i64 l.z, v] 26)) (hu.alloc (.cells #[.int .i64 l.x, .int .i64 l.z, v] 26)) hbig hbig')
  obtain ⟨A, c, rfl, hcap⟩ := hs.form
  obtain ⟨A', c', rfl, hcap'⟩ := hu.form
  clear hs hu
  go_enter Try.func118, Try.ntmps118
  go_wp2_with (go_at_call 18; refine HC.out.mono ?_; rintro e w1 ⟨rfl, hb1⟩)
  go_ret
  exact ⟨rfl, below_tr (below_alloc1 _ _) hb1⟩
set_option maxHeartbeats 1000000 in
theorem currentsError_any (v u : Value) (l : Ln) (cu : List Int) (w : World) (hs : Sl e3 3 w v l.ks) (hu : Sl e1 1 w u cu) (hbig : l.ks.length ≤ 1000) (hbig' : cu.length ≤ 1000) :
    Calls Try.prog 98 #[.agg #[.int .i64 l.x, .int .i64 l.z, v], u] w fun e w' => e = .returned (.int .i64 (currentsErr l cu)) ∧ Below w.heap.size w w' := by
  obtain ⟨A, c, rfl, hcap⟩ := hs.form
  obtain ⟨A', c', rfl, hcap'⟩ := hu.form
  have HC := Lib.hid (lineError_any _ l _ (hs.alloc (.cells #[.int .i64 l.x, .int .i64 l.z, .slice A l.ks.length c] 26)) hbig)
  have HU := Lib.hid (hu.alloc (.cells #[.int .i64 l.x, .int .i64 l.z, .slice A l.ks.length c] 26))
  clear hs hu
  by_cases h1 : lineErr l = 0
  · have E0 : currentsErr l cu = cursErr l cu := if_pos h1
    rw [h1] at HC
    clear h1
    by_cases h2 : cu.length = l.ks.length
    · have E : Hid (currentsErr l cu = (fb curErr cu 0).2) := E0.trans (if_pos h2)
      have h2' := lenb h2
      clear E0 h2
      go_enter Try.func98, Try.ntmps98
      go_wp2_with (first
        | (go_at_call 94; refine HC.out.mono ?_; rintro e w1 ⟨rfl, hb1⟩; obtain ⟨q1, _⟩ := (At.new w #[.int .i64 l.x, .int .i64 l.z, .slice A l.ks.length c] 26 2 _ rfl).below hb1; have HB1 := Lib.hid hb1; clear hb1)
        | (go_at_call 86; refine (SizeError_any 50 _ cu _ (by omega) (by omega) (HU.out.below HB1.out) (by omega)).mono ?_; rintro e w2 ⟨rfl, rfl⟩))
      go_ret
      exact ⟨ret_int ((cursErr_sz cu).trans E.out.symm), below_tr (below_alloc1 _ _) HB1.out⟩
    · have E : Hid (currentsErr l cu = 10) := E0.trans (if_neg h2)
      have h2' := lenb' h2
      clear E0 h2
      go_enter Try.func98, Try.ntmps98
      go_wp2_with (go_at_call 94; refine HC.out.mono ?_; rintro e w1 ⟨rfl, hb1⟩; obtain ⟨q1, _⟩ := (At.new w #[.int .i64 l.x, .int .i64 l.z, .slice A l.ks.length c] 26 2 _ rfl).below hb1; have HB1 := Lib.hid hb1; clear hb1)
      go_ret
      exact ⟨ret_int E.out.symm, below_tr (below_alloc1 _ _) HB1.out⟩
  · have E : Hid (currentsErr l cu = lineErr l) := if_neg h1
    have h1' := ne1 h1
    generalize lineErr l = q at *
    clear h1
    go_enter Try.func98, Try.ntmps98
    go_wp2_with (go_at_call 94; refine HC.out.mono ?_; rintro e w1 ⟨rfl, hb1⟩)
    go_ret
    exact ⟨ret_int E.out.symm, below_tr (below_alloc1 _ _) hb1⟩
end Go.Proofs.Ytegkppphaglpgaa
