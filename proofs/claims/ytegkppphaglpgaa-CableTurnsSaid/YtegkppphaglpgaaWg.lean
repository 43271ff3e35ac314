/-
  Walks: the posts around which a path is wound, as the program tells them; small helpers.
-/
import Derived.Test.YtegkppphaglpgaaWe
namespace Go.Proofs.Ytegkppphaglpgaa
open Go.RowKit Go.Shelf

def woundAround (path posts : List Pt) : List Int × Int := if pathErr path = 0 then (if postsErr path posts = 0 then (wound path posts 0, 0) else ([], postsErr path posts)) else ([], pathErr path)
theorem postsErr_ok {path posts : List Pt} (h : postsErr path posts = 0) : posts.length ≤ 10 ∧ ∀ p ∈ posts, postErr path p = 0 := by
  unfold postsErr at h
  by_cases h1 : 10 < posts.length
  · rw [if_pos h1] at h; omega
  · rw [if_neg h1] at h; exact ⟨by omega, (fb_ok _ _ _).1 h⟩
theorem ret_list {q : List Int × Int} {l : List Int} {a : Int} {r : Value} {base : Nat} {w : World} (h : q = (l, a)) (ho : Ow e1 1 3 base w r l) :
    Ending.returned (.tuple #[r, .int .i64 a]) = .returned (.tuple #[r, .int .i64 q.2]) ∧ Ow e1 1 3 base w r q.1 := by rw [h]; exact ⟨rfl, ho⟩

theorem At.grown {W W' : World} {p : Addr} {v : Value} {row : Option Nat} (h : At W p v) (hg : W.grownBy W' row) (hne : row ≠ some p.block) : At W' p v :=
  ⟨hg.cell h.1 (Ne.symm hne), (World.frozen?_of_block (hg.block _ h.lt (Ne.symm hne))).trans h.2⟩
theorem Ow.apart {α : Type} {enc : α → List Value} {s : Nat} {e : TypeId} {base : Nat} {w : World} {v : Value} {xs : List α} (h : Ow enc s e base w v xs) {k : Nat} (hk : k < base) : v.ownBlock ≠ some k :=
  fun e => by have := (World.ownsRow.lt h k e).1; omega
set_option maxRecDepth 100000 in
set_option maxHeartbeats 2000000 in
theorem WoundAround_any (v u : Value) (path posts : List Pt) (w : World) (hs : Sl e2 2 w v path) (hu : Sl e2 2 w u posts) (hbig : path.length ≤ 1000) (hbig' : posts.length ≤ 1000) :
    Calls Try.prog 75 #[v, u] w fun e w' => ∃ r, e = .returned (.tuple #[r, .int .i64 (woundAround path posts).2]) ∧ Ow e1 1 3 w.heap.size w' r (woundAround path posts).1 ∧ Below w.heap.size w w' := by
  obtain ⟨A, c, rfl, hcap⟩ := hs.form
  obtain ⟨A', c', rfl, hcap'⟩ := hu.form
  obtain ⟨i0, hi, hz0, hz1, hz2⟩ := info_parts intinfo
  have HS := Lib.hid hs
  have HU := Lib.hid hu
  clear hs hu
  have HP := Lib.hid (pathError_any _ path _ (HS.out.alloc (.cells #[.slice A path.length c] 112)) hbig)
  by_cases h1 : pathErr path = 0
  · obtain ⟨hp1, hp2, hp3⟩ := pathErr_ok h1
    have hsm := ways_sm hp3
    have HM := Lib.hid hsm
    rw [h1] at HP
    by_cases h2 : postsErr path posts = 0
    · have E : Hid (woundAround path posts = (wound path posts 0, 0)) := by unfold Hid woundAround; rw [if_pos h1, if_pos h2]
      obtain ⟨hn, hpo⟩ := postsErr_ok h2
      have HPO := Lib.hid hpo
      have hfb : (fb (postErr path) posts 0).2 = 0 := (fb_ok _ _ _).2 hpo
      have HFB := Lib.hid hfb
      clear h1 h2 hp3 hpo hsm hfb
      go_enter Try.func75, Try.ntmps75
      go_wp2_with (first
        | (go_at_call 127; refine HP.out.mono ?_; rintro e w1 ⟨rfl, hb1⟩; obtain ⟨q1, _⟩ := ((At.new w #[.slice A path.length c] 112 0 _ rfl).below hb1); have HBa := Lib.hid hb1; have HB1 := Lib.hid (below_tr (below_alloc1 _ _) hb1); clear hb1)
        | (go_at_call 130; refine (fb2_any 131 #[.pointer (some ⟨w.heap.size, 0, none⟩)] (enters_of Try.func131 (by kernel_rfl) rfl) (postErr path) _ posts _ (HU.out.below HB1.out) hbig' (fun W => W.cell? ⟨w.heap.size, 0, none⟩ = some (.slice A path.length c) ∧ Sl e2 2 W (.slice A path.length c) path) (fun W W' h hb => ⟨(hb.cell (p := ⟨w.heap.size, 0, none⟩) (cell_lt h.1)).trans h.1, h.2.below hb⟩) ⟨q1, HS.out.below HB1.out⟩ (fun x _ W h => post1_any _ _ path x W h.1 h.2 hp1 hp2 HM.out)).mono ?_; rw [HFB.out]; rintro e w2 ⟨rfl, hb2⟩; have q2 := (hb2.cell (p := ⟨w.heap.size, 0, none⟩) (cell_lt q1)).trans q1; have HBb := Lib.hid hb2; have HB2 := Lib.hid (below_tr HB1.out hb2); clear hb2))
      go_loopw [9, 10, 11, 31] (fun r _ _ i wr => ∃ (k : Nat) (acc : List Int), k ≤ posts.length ∧ i = .int .i64 k ∧ acc.length ≤ k ∧ Ow e1 1 3 (w.heap.size + 1) wr r acc ∧ acc ++ wound path (posts.drop k) k = wound path posts 0 ∧ Below w.heap.size w wr ∧ At wr ⟨w.heap.size, 0, none⟩ (.slice A path.length c)) (fun _ _ _ i _ => posts.length - (intOf i).toNat)
      case atStart => exact ⟨0, [], Nat.zero_le _, rfl, Nat.le_refl _, Ow.nil _ _ _ _ _, rfl, HB2.out, ((At.new w #[.slice A path.length c] 112 0 _ rfl).below HBa.out).below HBb.out⟩
      case round =>
        obtain ⟨k, acc, hk, rfl, hal, hown, hfb, hb, hat⟩ := hrel
        have HF := Lib.hid hfb
        have HB := Lib.hid hb
        have HO := Lib.hid hown
        have HA := Lib.hid hat
        have hq := hat.1
        have hql := hat.lt
        simp only at hql
        clear hfb hown hat
        by_cases hlt : k < posts.length
        · obtain ⟨b, off, rfl, hbl, hc0, hc1⟩ := (HU.out.below hb).at2 hlt
          have hf := wound_drop path posts k hlt
          have HD := Lib.hid hf
          have hp := winding_any _ path posts[k] _ ((HS.out.below hb).alloc (.cells #[.int .i64 posts[k].1, .int .i64 posts[k].2] 61)) hp1 hp2 HM.out (Sm.of (post_place (HPO.out _ (List.getElem_mem hlt))))
          have HW := Lib.hid hp
          clear hf hb hp
          by_cases he : winding path posts[k] = 0
          · have he' := ne0 he
            generalize winding path posts[k] = er at *
            go_wp2_with (go_at_call 129; refine HW.out.mono ?_; rintro e w3 ⟨rfl, hb3⟩)
            go_roundw
            case rel => exact ⟨k + 1, acc, by omega, by go_num, by omega, (HO.out.alloc _).below hb3, by rw [← HF.out, HD.out, if_pos he], below_tr (below_al HB.out _) hb3, (HA.out.al _).below hb3⟩
            case measure => simp [intOf]; omega
          · have he' := ne1 he
            generalize winding path posts[k] = er at *
            go_wp2_with (first
              | (go_at_call 129; refine HW.out.mono ?_; rintro e w3 ⟨rfl, hb3⟩; have HO1 := Lib.hid ((HO.out.alloc _).below hb3); have HA1 := Lib.hid ((HA.out.al _).below hb3); have HB1 := Lib.hid (below_tr (below_al HB.out _) hb3); clear hb3)
              | (at_builtin; refine wpList_append_own _ rfl _ _ 36 rfl (w.heap.size + 1) 3 i0 _ 1 8 Try.underlying36 hi hz0 hz1 hz2 rfl (by decide) _ _ _ rfl (HO1.out.own.alloc _) ⟨_, 0, none⟩ 1 1 (e1 k) rfl rfl (cells_new _ _ _) (e1_one _) (by simp only [maxLen]; omega) (by omega) (by have := HA1.out.lt; simp at this ⊢; omega) ?_; intro v1 w4 hown1 hg1 _; have HO2 := Lib.hid hown1; have HG := Lib.hid hg1; clear hown1 hg1))
            go_roundw
            case rel => exact ⟨k + 1, acc ++ [(k : Int)], by omega, by go_num, by simp; omega, Ow.snoc HO2.out, by rw [← HF.out, HD.out, if_neg he]; simp, (below_al HB1.out _).grown HG.out (below_al HB1.out _).size (fun j e => by have := (World.ownsRow.lt HO1.out j e).1; omega), (HA1.out.al _).grown HG.out (HO1.out.apart (by simp))⟩
            case measure => simp [intOf]; omega
        · clear hb
          obtain rfl : k = posts.length := by omega
          go_wp2_with fail
          go_ret2
          have hfin : acc = wound path posts 0 := by
            have := HF.out
            rw [List.drop_of_length_le (Nat.le_refl _), wound, List.append_nil] at this
            exact this
          subst hfin
          exact ⟨_, (ret_list E.out (HO.out.less (Nat.le_succ _))).1, (ret_list E.out (HO.out.less (Nat.le_succ _))).2, HB.out⟩
    · have E : Hid (woundAround path posts = ([], postsErr path posts)) := by unfold Hid woundAround; rw [if_pos h1, if_neg h2]
      have h2' := ne1 h2
      by_cases h3 : 10 < posts.length
      · have e8 : postsErr path posts = 8 := by unfold postsErr; rw [if_pos h3]
        rw [e8] at E
        clear h1 h2 h2' e8 hsm hp3
        go_enter Try.func75, Try.ntmps75
        go_wp2_with (go_at_call 127; refine HP.out.mono ?_; rintro e w1 ⟨rfl, hb1⟩; obtain ⟨q1, _⟩ := ((At.new w #[.slice A path.length c] 112 0 _ rfl).below hb1))
        go_ret2
        exact ⟨_, (ret_list E.out (Ow.nil _ _ _ w.heap.size w)).1, (ret_list E.out (Ow.nil _ _ _ w.heap.size _)).2, below_tr (below_alloc1 _ _) hb1⟩
      · have ee : postsErr path posts = (fb (postErr path) posts 0).2 := by unfold postsErr; rw [if_neg h3]
        rw [ee] at E h2'
        clear h1 h2 ee hsm hp3
        go_enter Try.func75, Try.ntmps75
        go_wp2_with (first
          | (go_at_call 127; refine HP.out.mono ?_; rintro e w1 ⟨rfl, hb1⟩; obtain ⟨q1, _⟩ := ((At.new w #[.slice A path.length c] 112 0 _ rfl).below hb1); have HB1 := Lib.hid (below_tr (below_alloc1 _ _) hb1); clear hb1)
          | (go_at_call 130; refine (fb2_any 131 #[.pointer (some ⟨w.heap.size, 0, none⟩)] (enters_of Try.func131 (by kernel_rfl) rfl) (postErr path) _ posts _ (HU.out.below HB1.out) hbig' (fun W => W.cell? ⟨w.heap.size, 0, none⟩ = some (.slice A path.length c) ∧ Sl e2 2 W (.slice A path.length c) path) (fun W W' h hb => ⟨(hb.cell (p := ⟨w.heap.size, 0, none⟩) (cell_lt h.1)).trans h.1, h.2.below hb⟩) ⟨q1, HS.out.below HB1.out⟩ (fun x _ W h => post1_any _ _ path x W h.1 h.2 hp1 hp2 HM.out)).mono ?_; rintro e w2 ⟨rfl, hb2⟩; generalize (fb (postErr path) posts 0).2 = pe at *))
        go_ret2
        exact ⟨_, (ret_list E.out (Ow.nil _ _ _ w.heap.size w)).1, (ret_list E.out (Ow.nil _ _ _ w.heap.size _)).2, below_tr HB1.out hb2⟩
  · have E : Hid (woundAround path posts = ([], pathErr path)) := by unfold Hid woundAround; rw [if_neg h1]
    have h1' := ne1 h1
    generalize pathErr path = pe at *
    clear h1
    go_enter Try.func75, Try.ntmps75
    go_wp2_with (go_at_call 127; refine HP.out.mono ?_; rintro e w1 ⟨rfl, hb1⟩)
    go_ret2
    exact ⟨_, (ret_list E.out (Ow.nil _ _ _ w.heap.size w)).1, (ret_list E.out (Ow.nil _ _ _ w.heap.size _)).2, below_tr (below_alloc1 _ _) hb1⟩
end Go.Proofs.Ytegkppphaglpgaa
