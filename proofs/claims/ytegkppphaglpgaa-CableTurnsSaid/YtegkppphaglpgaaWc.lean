/-
  Walks of chapter 1's turns: all posts, the posts around which a path is wound; copies; comparisons of lists.
-/
import Derived.Test.YtegkppphaglpgaaWb
namespace Go.Proofs.Ytegkppphaglpgaa
open Go.RowKit Go.Shelf

theorem intinfo : (Try.prog.info? 3).map (fun i => (i.zero, i.size, i.bytes)) = some (some (.int .i64 0), 1, 8) := by kernel_rfl

set_option maxHeartbeats 400000 in
theorem PostsErr_any (v u : Value) (path posts : List Pt) (w : World) (hs : Sl e2 2 w v path) (hu : Sl e2 2 w u posts) (h30 : path.length ≤ 30) (hsm : ∀ x ∈ ways path, Sm x.1 ∧ Sm x.2) (hbig : posts.length ≤ 1000) :
    Calls Try.prog 79 #[v, u] w fun e w' => e = .returned (.int .i64 (postsErr path posts)) ∧ Below w.heap.size w w' := by
  obtain ⟨A, c, rfl, hcap⟩ := hs.form
  obtain ⟨A', c', rfl, hcap'⟩ := hu.form
  have HS := Lib.hid hs
  have HU := Lib.hid hu
  have HM := Lib.hid hsm
  clear hs hu hsm
  by_cases h1 : 10 < posts.length
  · have E : Hid (postsErr path posts = 8) := by unfold Hid postsErr; rw [if_pos h1]
    go_enter Try.func79, Try.ntmps79
    go_wp2_with fail
    go_ret
    exact ⟨ret_int E.out.symm, Below.refl _ _⟩
  · have E : Hid (postsErr path posts = (fb (postErr path) (posts.drop 0) 0).2) := by unfold Hid postsErr; rw [if_neg h1]; rfl
    go_enter Try.func79, Try.ntmps79
    go_wp2_with fail
    go_loopw [5, 6] (fun i _ wr => ∃ k : Nat, k ≤ posts.length ∧ i = .int .i64 k ∧ (fb (postErr path) (posts.drop k) k).2 = (fb (postErr path) (posts.drop 0) 0).2 ∧ Below w.heap.size w wr) (fun i _ _ => posts.length - (intOf i).toNat)
    case atStart => exact ⟨0, Nat.zero_le _, rfl, rfl, Below.refl _ _⟩
    case round =>
      obtain ⟨k, hk, rfl, hfb, hb⟩ := hrel
      have HF := Lib.hid hfb
      have HB := Lib.hid hb
      clear hfb
      by_cases hlt : k < posts.length
      · obtain ⟨b, off, rfl, hbl, hc0, hc1⟩ := (HU.out.below hb).at2 hlt
        have hf := fb_drop (postErr path) posts k hlt
        have HD := Lib.hid hf
        have hp := PostErr_any _ path posts[k] wr (HS.out.below hb) h30 HM.out
        have HP := Lib.hid hp
        clear hf hb hp
        by_cases he : postErr path posts[k] = 0
        · have he' := ne0 he
          generalize postErr path posts[k] = er at *
          go_wp2_with (go_at_call 77; refine HP.out.mono ?_; rintro e w1 ⟨rfl, hb1⟩)
          go_roundw
          case rel => exact ⟨k + 1, by omega, by go_num, by rw [← HF.out, HD.out, if_pos he], below_tr HB.out hb1⟩
          case measure => simp [intOf]; omega
        · have he' := ne1 he
          generalize postErr path posts[k] = er at *
          go_wp2_with (go_at_call 77; refine HP.out.mono ?_; rintro e w1 ⟨rfl, hb1⟩)
          go_ret
          exact ⟨ret_int (by rw [E.out, ← HF.out, HD.out, if_neg he]), below_tr HB.out hb1⟩
      · clear hb
        obtain rfl : k = posts.length := by omega
        go_wp2_with fail
        go_ret
        exact ⟨ret_int (by rw [E.out, ← HF.out, fb_end _ _ _ (Nat.le_refl _)]), HB.out⟩

theorem wound_drop (path posts : List Pt) (k : Nat) (h : k < posts.length) : wound path (posts.drop k) k = if winding path posts[k] = 0 then wound path (posts.drop (k + 1)) (k + 1) else (k : Int) :: wound path (posts.drop (k + 1)) (k + 1) := by
  rw [List.drop_eq_getElem_cons h, wound]
set_option maxHeartbeats 1000000 in
theorem Wound_any (v u : Value) (path posts : List Pt) (w : World) (hs : Sl e2 2 w v path) (hu : Sl e2 2 w u posts) (h30 : path.length ≤ 30) (hsm : ∀ x ∈ ways path, Sm x.1 ∧ Sm x.2) (hbig : posts.length ≤ 1000) (hp : ∀ p ∈ posts, Sm p) :
    Calls Try.prog 80 #[v, u] w fun e w' => ∃ r, e = .returned r ∧ Ow e1 1 3 w.heap.size w' r (wound path posts 0) ∧ Below w.heap.size w w' := by
  obtain ⟨A, c, rfl, hcap⟩ := hs.form
  obtain ⟨A', c', rfl, hcap'⟩ := hu.form
  obtain ⟨i0, hi, hz0, hz1, hz2⟩ := info_parts intinfo
  have HS := Lib.hid hs
  have HU := Lib.hid hu
  have HM := Lib.hid hsm
  have HP := Lib.hid hp
  clear hs hu hsm hp
  go_enter Try.func80, Try.ntmps80
  go_wp2_with fail
  go_loopw [5, 6] (fun r i wr => ∃ (k : Nat) (acc : List Int), k ≤ posts.length ∧ i = .int .i64 k ∧ acc.length ≤ k ∧ Ow e1 1 3 w.heap.size wr r acc ∧ acc ++ wound path (posts.drop k) k = wound path posts 0 ∧ Below w.heap.size w wr) (fun _ i _ => posts.length - (intOf i).toNat)
  case atStart => exact ⟨0, [], Nat.zero_le _, rfl, Nat.le_refl _, Ow.nil _ _ _ _ _, rfl, Below.refl _ _⟩
  case round =>
    obtain ⟨k, acc, hk, rfl, hal, hown, hfb, hb⟩ := hrel
    have HF := Lib.hid hfb
    have HB := Lib.hid hb
    have HO := Lib.hid hown
    clear hfb hown
    by_cases hlt : k < posts.length
    · obtain ⟨b, off, rfl, hbl, hc0, hc1⟩ := (HU.out.below hb).at2 hlt
      have hf := wound_drop path posts k hlt
      have HD := Lib.hid hf
      have hp := Winding_any _ path posts[k] wr (HS.out.below hb) h30 HM.out (HP.out _ (List.getElem_mem _))
      have HW := Lib.hid hp
      clear hf hb hp
      by_cases he : winding path posts[k] = 0
      · have he' := ne0 he
        generalize winding path posts[k] = er at *
        go_wp2_with (go_at_call 78; refine HW.out.mono ?_; rintro e w1 ⟨rfl, hb1⟩)
        go_roundw
        case rel => exact ⟨k + 1, acc, by omega, by go_num, by omega, HO.out.below hb1, by rw [← HF.out, HD.out, if_pos he], below_tr HB.out hb1⟩
        case measure => simp [intOf]; omega
      · have he' := ne1 he
        generalize winding path posts[k] = er at *
        go_wp2_with (first
          | (go_at_call 78; refine HW.out.mono ?_; rintro e w1 ⟨rfl, hb1⟩; have HO1 := Lib.hid (HO.out.below hb1); have HB1 := Lib.hid (below_tr HB.out hb1); clear hb1)
          | (at_builtin; refine wpList_append_own _ rfl _ _ 36 rfl w.heap.size 3 i0 _ 1 8 Try.underlying36 hi hz0 hz1 hz2 rfl (by decide) _ _ _ rfl (HO1.out.own.alloc _) ⟨_, 0, none⟩ 1 1 (e1 k) rfl rfl (cells_new _ _ _) (e1_one _) (by simp only [maxLen]; omega) (by omega) (by have := HB1.out.size; simp; omega) ?_; intro v1 w2 hown1 hg1 _; have HO2 := Lib.hid hown1; have HG := Lib.hid hg1; clear hown1 hg1))
        go_roundw
        case rel => exact ⟨k + 1, acc ++ [(k : Int)], by omega, by go_num, by simp; omega, Ow.snoc HO2.out, by rw [← HF.out, HD.out, if_neg he]; simp, (HO1.out.alloc _).grown HG.out (below_al HB1.out _) (Nat.le_refl _)⟩
        case measure => simp [intOf]; omega
    · clear hb
      obtain rfl : k = posts.length := by omega
      go_wp2_with fail
      go_ret
      refine ⟨_, rfl, ?_, HB.out⟩
      have := HF.out
      rw [List.drop_of_length_le (Nat.le_refl _), wound, List.append_nil] at this
      rw [← this]
      exact HO.out
end Go.Proofs.Ytegkppphaglpgaa
