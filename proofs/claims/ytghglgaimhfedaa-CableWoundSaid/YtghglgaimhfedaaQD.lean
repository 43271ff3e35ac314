/-
  Walks of chapter 1's turns: the iterator over the ways of a path, and what ranges over it.
-/
import Derived.Test.YtghglgaimhfedaaQC
import Derived.Test.YtghglgaimhfedaaQB
import Derived.Test.YtghglgaimhfedaaZWh
import Derived.StillTailTactics
import Derived.Deep.DeepCutAuto
namespace Go.Proofs.Ytghglgaimhfedaa
open Go.RowKit Go.Shelf
attribute [local go_sem] Oper.semAt_some

def encW (x : Pt × Pt) : Array Value := #[.agg #[.int .i64 x.1.1, .int .i64 x.1.2], .agg #[.int .i64 x.2.1, .int .i64 x.2.2]]
theorem ways_any (A : Option Addr) (n c : Nat) (w : World) :
    Calls Try.prog 160 #[.slice A n c] w fun e w' => e = .returned (.func (.func 165) #[] #[.pointer (some ⟨w.heap.size, 0, none⟩)]) ∧ w.alloc (.cells #[.slice A n c] 107) = w' := by
  go_enter Try.func160, Try.ntmps160
  go_wp2
  go_ret
  exact ⟨rfl, rfl⟩

theorem take_pre {α : Type} (xs : List α) (k : Nat) (h : k < xs.length) : xs.take k ++ [xs[k]] <+: xs := by
  have e : xs.take (k + 1) = xs.take k ++ [xs[k]] := List.take_succ_eq_append_getElem h
  rw [← e]
  exact List.take_prefix _ _

set_option maxHeartbeats 2000000 in
theorem ways_seq (Bx : Nat) (v : Value) (path : List Pt) (w : World) (hlen : path.length ≤ 30) (hBx : Bx < w.heap.size) (hb : w.cell? ⟨Bx, 0, none⟩ = some v) (hs : Sl e2 2 w v path)
    (S : Nat → Prop) (hS : S Bx) (hSv : ∀ b, v.ownBlock = some b → S b) :
    SeqX Try.prog 165 #[.pointer (some ⟨Bx, 0, none⟩)] encW S (ways path) w := by
  intro l J Jx W hW hJ hJx hY h0
  have hBxW : Bx < W.heap.size := Nat.lt_of_lt_of_le hBx hW.size
  have hbW : W.cell? ⟨Bx, 0, none⟩ = some v := (hW.cell (p := ⟨Bx, 0, none⟩) hBx).trans hb
  have hsW : Sl e2 2 W v path := hs.below hW
  clear hb hs hW hBx
  obtain ⟨A, c, rfl, hcap⟩ := hsW.form
  have HY := Lib.hid hY
  have HJ := Lib.hid hJ
  have HJx := Lib.hid hJx
  clear hY hJ hJx
  refine callsIn_of_wp Try.func165 rfl trivial ?_ rfl
  simp only [Try.ntmps165, List.size_toArray, List.length_cons, List.length_nil, Nat.reduceAdd, Nat.reduceSub, Array.replicate_succ, Array.replicate_zero, List.push_toArray, List.append_toArray, List.nil_append, List.cons_append]
  gi_wp2
  gi_loopw [3, 4, 7] (fun _ _ i wr => ∃ k : Nat, k ≤ path.length ∧ i = .int .i64 k ∧ J ((ways path).take k) wr ∧ Bx < wr.heap.size ∧ wr.cell? ⟨Bx, 0, none⟩ = some (.slice A path.length c) ∧ Sl e2 2 wr (.slice A path.length c) path)
    (fun _ _ i _ => path.length - (intOf i).toNat)
  case atStart => exact ⟨0, Nat.zero_le _, rfl, h0, hBxW, hbW, hsW⟩
  case round =>
    obtain ⟨k, hk, rfl, hJs, hBr, hbr, hsr⟩ := hrel
    by_cases hlt : k < path.length
    · obtain ⟨b, off, rfl, hbl, hc0, hc1⟩ := hsr.at2 hlt
      obtain ⟨j, hj⟩ : ∃ j, j = (k + 1) % path.length := ⟨_, rfl⟩
      have hjl : j < path.length := by rw [hj]; exact Nat.mod_lt _ (by omega)
      obtain ⟨b', off', e', _, hd0, hd1⟩ := hsr.at2 hjl
      injection e' with e'
      injection e' with e1 e2'
      subst e1; subst e2'
      have hwl : k < (ways path).length := by rw [ways_len]; exact hlt
      have hway : (ways path)[k] = (path[k], path[j]) := by rw [ways_at _ _ hlt]; unfold wayAt; rw [← hj, getD_eq _ _ _ hlt, getD_eq _ _ _ hjl]
      have hpre : (ways path).take k ++ [(path[k], path[j])] <+: ways path := by rw [← hway]; exact take_pre _ _ hwl
      have hJ1 := own_drew HJ.out (OwnFrom.alloc HJ.out (.cells #[.int .i64 path[k].1, .int .i64 path[k].2] 61) hJs)
      obtain ⟨fn, tmps, assign, body, hy, hR⟩ := HY.out _ _ _ hpre hJ1
      dsimp only [encW] at hy
      have hR1 := yout hR
      clear hR
      have hL : ((path.length : Int) == 0) = false := by rw [beq_eq_false_iff_ne]; omega
      have hne : path ≠ [] := by rintro rfl; simp at hlt
      have h8 : IntKind.i64.wrap ((k : Int) + 1) = (k : Int) + 1 := IntWalk.i64_in _ (by omega)
      have h9 : ((k : Int) + 1).tmod (path.length : Int) = (j : Int) := by rw [Int.tmod_eq_emod_of_nonneg (by omega), hj]; rfl
      have hjl' : (j : Int) < (path.length : Int) := by omega
      have h5 : ((k : Int) + 1) % (path.length : Int) = (j : Int) := by rw [hj]; rfl
      have h7 : (0 : Int) ≤ (k : Int) + 1 := by omega
      have Hj := Lib.hid hj
      have HP := Lib.hid hpre
      have HW := Lib.hid hway
      have Hs := Lib.hid hsr
      clear hj hway hpre hsr hbW hsW h0 hJ1
      have hmix : Try.prog.follows .mixedOrders = true := by kernel_rfl
      gi_wp2
      gi_region_with_o (refine ⟨rfl, hR1.mono ?_⟩; rintro e W3 ⟨bb, rfl, hO⟩)
      all_goals clear hy hR1
      all_goals
        rcases hO with ⟨rfl, hJ3, hk3⟩ | ⟨rfl, hJx3⟩
        · have hs3 := Sl.kpt (((Hs.out.alloc (.cells #[.int .i64 path[k].1, .int .i64 path[k].2] 61))).drew) hk3 hSv
          have hz3 := hk3.size
          simp at hz3
          have hbr3 : W3.cell? ⟨Bx, 0, none⟩ = some (.slice (some ⟨b, off, none⟩) path.length c) := by
            rw [hk3.cell (p := ⟨Bx, 0, none⟩) hS (by simp; omega)]
            exact (World.cell?_alloc_lt wr _ ⟨Bx, 0, none⟩ hBr).trans hbr
          have Hs3 := Lib.hid hs3
          have Hk3 := Lib.hid hk3
          clear hs3 hk3
          gi_wp2
          go_roundw
          case rel => exact ⟨k + 1, by omega, by go_num, by rw [List.take_succ_eq_append_getElem hwl, HW.out]; exact hJ3, by omega, hbr3, Hs3.out⟩
          case measure => simp [intOf]; omega
        · gi_wp2
          refine bodyPost_ret (results_none rfl _ _ _) rfl ?_
          exact ⟨⟨_, rfl⟩, .inr ⟨_, HP.out, hJx3⟩⟩
    · obtain rfl : k = path.length := by omega
      gi_wp2
      go_end0
      exact ⟨⟨_, rfl⟩, .inl (by rw [List.take_of_length_le (by rw [ways_len]; omega)] at hJs; exact hJs)⟩
end Go.Proofs.Ytghglgaimhfedaa

namespace Go.Proofs.Ytghglgaimhfedaa
open Go.RowKit Go.Shelf
attribute [local go_sem] Oper.semAt_some wide_fn wide_depth round_fn round_depth

theorem sum_snoc (l : List Int) (x : Int) : (l ++ [x]).sum = l.sum + x := by simp
theorem pre_len {α : Type} {pre xs : List α} {x : α} (h : pre ++ [x] <+: xs) : pre.length < xs.length := by have := h.length_le; simp at this; omega
theorem pre_mem {α : Type} {pre xs : List α} {x : α} (h : pre ++ [x] <+: xs) : x ∈ xs := h.subset (by simp)

set_option maxHeartbeats 400000 in
theorem winding_any (v : Value) (path : List Pt) (p : Pt) (w : World) (hs : Sl e2 2 w v path) (h0 : 0 < path.length) (h30 : path.length ≤ 30) (hsm : ∀ x ∈ ways path, Sm x.1 ∧ Sm x.2) (hp : Sm p) :
    Calls Try.prog 130 #[v, .agg #[.int .i64 p.1, .int .i64 p.2]] w fun e w' => e = .returned (.int .i64 (winding path p)) ∧ Below w.heap.size w w' := by
  have hvb := hs.blk h0
  obtain ⟨A, c, rfl, hcap⟩ := hs.form
  refine (callsIn_wide (n := 0)).1 ?_
  refine callsIn_of_wp_marks Try.func130 rfl trivial ?_ rfl
  simp only [Try.ntmps130, List.size_toArray, List.length_cons, List.length_nil, Nat.reduceAdd, Nat.reduceSub, Array.replicate_succ, Array.replicate_zero, List.push_toArray, List.append_toArray, List.nil_append, List.cons_append]
  have HV := Lib.hid hvb
  have HS := Lib.hid hs
  have HM := Lib.hid hsm
  clear hvb hs hsm
  have h1 := h0
  gi_wp2_with (gi_at_call 160; refine (atWide (ways_any _ _ _ _)).mono ?_; rintro e w1 ⟨rfl, rfl⟩)
  obtain ⟨W0, hW0⟩ : ∃ W0, W0 = ((w.alloc (.cells #[.int .i64 p.1, .int .i64 p.2] 61)).alloc (.cells #[.int .i64 0] 3)).alloc (.cells #[.slice A path.length c] 107) := ⟨_, rfl⟩
  rw [← hW0]
  have hb0 : Below w.heap.size w W0 := by rw [hW0]; exact below_al (below_al (below_alloc1 _ _) _) _
  have hz0 : w.heap.size + 3 ≤ W0.heap.size := by rw [hW0]; simp
  have aT : At W0 ⟨w.heap.size + 1, 0, none⟩ (.int .i64 0) := by
    rw [hW0]; have := (At.new (w.alloc (.cells #[.int .i64 p.1, .int .i64 p.2] 61)) #[.int .i64 0] 3 0 _ rfl).below (below_alloc1 _ (.cells #[.slice A path.length c] 107)); simpa using this
  have aP : ∀ j v, (#[Value.int .i64 p.1, .int .i64 p.2] : Array Value)[j]? = some v → At W0 ⟨w.heap.size, j, none⟩ v := by
    intro j v hv
    rw [hW0]; exact ((At.new w _ 61 j v hv).below (below_alloc1 _ _)).below (below_alloc1 _ _)
  have aB : W0.cell? ⟨w.heap.size + 2, 0, none⟩ = some (.slice A path.length c) := by
    rw [hW0]; have := (At.new ((w.alloc (.cells #[.int .i64 p.1, .int .i64 p.2] 61)).alloc (.cells #[.int .i64 0] 3)) #[.slice A path.length c] 107 0 _ rfl).1; simpa using this
  have aP1 := aP 0 _ rfl
  have aP2 := aP 1 _ rfl
  have hsW := HS.out.below hb0
  clear aP hW0
  refine wp_rangeX (gf := 165) (lb := #[.pointer (some ⟨w.heap.size + 1 + 1, 0, none⟩)]) rfl (enters_of Try.func165 (by kernel_rfl) rfl)
    (ways_seq (w.heap.size + 2) _ path W0 h30 (by omega) aB hsW (fun k => k = w.heap.size + 2 ∨ (Value.slice A path.length c).ownBlock = some k) (.inl rfl) (fun b hb => .inr hb)) (Below.refl _ _)
    (by
      rintro k (rfl | hk)
      · omega
      · have := HV.out k hk; omega) (fun _ => rfl)
    (fun pre W => (At W ⟨w.heap.size + 1, 0, none⟩ (.int .i64 (pre.map fun x => cross x.1 x.2 p).sum) ∧ At W ⟨w.heap.size, 0, none⟩ (.int .i64 p.1) ∧ At W ⟨w.heap.size, 1, none⟩ (.int .i64 p.2)) ∧ Below w.heap.size w W)
    (fun _ _ _ => False)
    (OwnFrom.and (OwnFrom.and (own_at _ _ _) (OwnFrom.and (own_at _ _ fun _ => _) (own_at _ _ fun _ => _))) (ownFrom_below (Nat.le_refl _) (by omega)))
    (fun _ _ _ _ _ h _ _ => h) ⟨⟨aT, aP1, aP2⟩, hb0⟩ ?round ?done ?stop
  case round =>
    rintro l pre ⟨⟨a1, a2⟩, ⟨b1, b2⟩⟩ W hl hlt hpre ⟨⟨hT, hP1, hP2⟩, hB⟩
    have hsm := HM.out _ (pre_mem hpre)
    have hn := pre_len hpre
    rw [ways_len] at hn
    have hcr := fun w => crossing_any (a1, a2) (b1, b2) p w hsm.1 hsm.2 hp
    have hbd := sum_bd (pre.map fun x => cross x.1 x.2 p) (by intro y hy; obtain ⟨x, _, rfl⟩ := List.mem_map.1 hy; exact cross_bd _ _ _)
    rw [List.length_map] at hbd
    have hbc := cross_bd (a1, a2) (b1, b2) p
    have HC := Lib.hid hcr
    clear hcr hsm
    have hsn : ((pre ++ [((a1, a2), (b1, b2))]).map fun x => cross x.1 x.2 p).sum = (pre.map fun x => cross x.1 x.2 p).sum + cross (a1, a2) (b1, b2) p := by simp
    have HN := Lib.hid hsn
    clear hsn
    generalize (pre.map fun x => cross x.1 x.2 p).sum = sm at *
    generalize cross (a1, a2) (b1, b2) p = cr at *
    simp only [encW]
    gi_wp2
    refine ⟨((Kep.refl _ _ _).alloc _).alloc _, fun W2 hTn => ?_⟩
    obtain ⟨x1, y1⟩ := box2 W #[.int .i64 a1, .int .i64 a2] #[.int .i64 b1, .int .i64 b2] 61 61
    obtain ⟨c1, f1⟩ := (x1 0 _ rfl).turn hTn
    obtain ⟨c2, f2⟩ := (x1 1 _ rfl).turn hTn
    obtain ⟨c3, f3⟩ := (y1 0 _ rfl).turn hTn
    obtain ⟨c4, f4⟩ := (y1 1 _ rfl).turn hTn
    have hT2 := ((hT.al (.cells #[.int .i64 a1, .int .i64 a2] 61)).al (.cells #[.int .i64 b1, .int .i64 b2] 61)).turn hTn
    have hP12 := ((hP1.al (.cells #[.int .i64 a1, .int .i64 a2] 61)).al (.cells #[.int .i64 b1, .int .i64 b2] 61)).turn hTn
    have hP22 := ((hP2.al (.cells #[.int .i64 a1, .int .i64 a2] 61)).al (.cells #[.int .i64 b1, .int .i64 b2] 61)).turn hTn
    have hB2 : Below w.heap.size w W2 := (below_al (below_al hB _) _).trans (hTn.below (by omega))
    have hz2 := hTn.size
    simp at hz2
    have hWs := hT.lt
    simp only at hWs
    have g1 : w.heap.size + 1 < W2.heap.size := by omega
    have g2 : w.heap.size < W2.heap.size := by omega
    have g3 : W.heap.size < W2.heap.size := by omega
    have g4 : W.heap.size + 1 < W2.heap.size := by omega
    clear hz2
    obtain ⟨c5, f5⟩ := hT2
    have c6 := hP12.1
    have c7 := hP22.1
    have KB := Lib.hid hB2
    have KT := Lib.hid hTn
    have KP := Lib.hid (And.intro hP12 hP22)
    clear x1 y1 hT hP1 hP2 hB hB2 hTn hP12 hP22 f1 f2 f3 f4
    have hw : IntKind.i64.wrap (sm + cr) = sm + cr := IntWalk.i64_in _ (by omega)
    have fin : ∀ W3, Below W2.drew.heap.size W2.drew W3 → Kep W0.heap.size (fun k => k = w.heap.size + 2 ∨ (Value.slice A path.length c).ownBlock = some k) W2 (W3.setCell ⟨w.heap.size + 1, 0, none⟩ (.int .i64 (sm + cr))) ∧
        (At (W3.setCell ⟨w.heap.size + 1, 0, none⟩ (.int .i64 (sm + cr))) ⟨w.heap.size + 1, 0, none⟩ (.int .i64 (((pre ++ [((a1, a2), (b1, b2))]).map fun x => cross x.1 x.2 p).sum)) ∧
          At (W3.setCell ⟨w.heap.size + 1, 0, none⟩ (.int .i64 (sm + cr))) ⟨w.heap.size, 0, none⟩ (.int .i64 p.1) ∧ At (W3.setCell ⟨w.heap.size + 1, 0, none⟩ (.int .i64 (sm + cr))) ⟨w.heap.size, 1, none⟩ (.int .i64 p.2)) ∧
        Below w.heap.size w (W3.setCell ⟨w.heap.size + 1, 0, none⟩ (.int .i64 (sm + cr))) := by
      intro W3 hb3
      refine ⟨Kep.setCell (((Kep.refl _ _ _).drew).call hb3) ?_ _, ⟨?_, ?_, ?_⟩, below_set (below_tr KB.out.drew hb3) (by show w.heap.size ≤ w.heap.size + 1; omega) _⟩
      · rintro (h | h)
        · simp at h
        · have := HV.out _ h; simp at this; omega
      · rw [HN.out]; exact (At.below (W := W2.drew) ⟨c5, f5⟩ hb3).set
      · exact (KP.out.1.drew.below hb3).other (by simp)
      · exact (KP.out.2.drew.below hb3).other (by simp)
    have HF := Lib.hid fin
    clear fin
    have hmix : Try.prog.follows .mixedOrders = true := by kernel_rfl
    gi_wp2
    gi_region_with_o (gi_at_call 162; refine (inRnd l (HC.out _)).mono ?_; rintro e W3 ⟨rfl, hb3⟩; have k5 := (hb3.cell (p := ⟨w.heap.size + 1, 0, none⟩) g1).trans c5; have j5 := (hb3.frozen (p := ⟨w.heap.size + 1, 0, none⟩) g1).trans f5)
    all_goals
      gi_wp2
      exact HF.out _ hb3
  case done =>
    rintro D W hD ⟨⟨hT, _⟩, hB⟩ hK
    obtain ⟨hT1, hT2⟩ := hT
    gi_wp2
    refine ⟨by simp, .inl ⟨_, _, rfl, run_takeDeferred hK, ?_⟩⟩
    exact ⟨_, results_tmp rfl _ _ _, rfl, below_put hB (Nat.le_refl _) (by omega) hK⟩
  case stop =>
    rintro D c pre W _ _ h _
    exact h.elim
end Go.Proofs.Ytghglgaimhfedaa

namespace Go.Proofs.Ytghglgaimhfedaa
open Go.RowKit Go.Shelf

theorem ne0 {n : Int} (h : n = 0) : (n != 0) = false := by rw [bne_eq_false_iff_eq]; exact h
theorem ne1 {n : Int} (h : ¬ n = 0) : (n != 0) = true := by rw [bne_iff_ne]; exact h
theorem eq0 {n : Int} (h : n = 0) : (n == 0) = true := by rw [beq_iff_eq]; exact h
theorem eq1 {n : Int} (h : ¬ n = 0) : (n == 0) = false := by rw [beq_eq_false_iff_ne]; exact h

theorem pathErr_cl (path : List Pt) : (clErr 1 30 placeErr path).2 = pathErr path := by
  unfold clErr pathErr
  by_cases h0 : path.length = 0
  · rw [if_pos (by omega), if_pos h0]
  · rw [if_neg (by omega), if_neg h0]
    by_cases h1 : 30 < path.length
    · rw [if_pos (by omega), if_pos h1]
    · rw [if_neg (by omega), if_neg h1]
set_option maxHeartbeats 400000 in
theorem pathError_any (v : Value) (path : List Pt) (w : World) (hs : Sl e2 2 w v path) (hbig : path.length ≤ 1000) :
    Calls Try.prog 128 #[v] w fun e w' => e = .returned (.int .i64 (pathErr path)) ∧ Below w.heap.size w w' := by
  obtain ⟨A, c, rfl, hcap⟩ := hs.form
  have HS := Lib.hid hs
  have E := Lib.hid (pathErr_cl path)
  clear hs
  go_enter Try.func128, Try.ntmps128
  go_wp2_with (go_at_call 158; refine (cl2_any 159 #[] (enters_of Try.func159 (by kernel_rfl) rfl) placeErr 1 30 _ path _ HS.out hbig (fun _ => True) (fun _ _ _ _ => trivial) trivial (fun x _ W _ => placeError_any x W)).mono ?_; rintro e w1 ⟨rfl, hb1⟩)
  go_ret
  exact ⟨ret_int E.out, hb1⟩

theorem fb_place (path : List Pt) (k : Nat) (h : k < path.length) : (fb placeErr (path.drop k) k).2 = if placeOk path[k] = true then (fb placeErr (path.drop (k + 1)) (k + 1)).2 else 2 := by
  rw [fb_drop placeErr path k h]
  unfold placeErr
  by_cases hp : placeOk path[k] = true
  · rw [if_pos hp, if_pos rfl, if_pos hp]
  · rw [if_neg hp, if_neg (by omega), if_neg hp]
set_option maxHeartbeats 400000 in
theorem PathErr_any (v : Value) (path : List Pt) (w : World) (hs : Sl e2 2 w v path) (hbig : path.length ≤ 1000) :
    Calls Try.prog 76 #[v] w fun e w' => e = .returned (.int .i64 (pathErr path)) ∧ Below w.heap.size w w' := by
  obtain ⟨A, c, rfl, hcap⟩ := hs.form
  have HS := Lib.hid hs
  clear hs
  by_cases h0 : path.length = 0
  · have h0' : ((path.length : Int) == 0) = true := eq0 (by omega)
    have E : Hid (pathErr path = 10) := by unfold Hid pathErr; rw [if_pos h0]
    clear h0
    go_enter Try.func76, Try.ntmps76
    go_wp2_with fail
    go_ret
    exact ⟨ret_int E.out.symm, Below.refl _ _⟩
  · have h0' : ((path.length : Int) == 0) = false := eq1 (by omega)
    by_cases h1 : 30 < path.length
    · have E : Hid (pathErr path = 8) := by unfold Hid pathErr; rw [if_neg h0, if_pos h1]
      go_enter Try.func76, Try.ntmps76
      go_wp2_with fail
      go_ret
      exact ⟨ret_int E.out.symm, Below.refl _ _⟩
    · have E : Hid (pathErr path = (fb placeErr (path.drop 0) 0).2) := by unfold Hid pathErr; rw [if_neg h0, if_neg h1]; rfl
      go_enter Try.func76, Try.ntmps76
      go_wp2_with fail
      go_loopw [3] (fun i wr => ∃ k : Nat, k ≤ path.length ∧ i = .int .i64 k ∧ (fb placeErr (path.drop k) k).2 = (fb placeErr (path.drop 0) 0).2 ∧ Below w.heap.size w wr) (fun i _ => path.length - (intOf i).toNat)
      case atStart => exact ⟨0, Nat.zero_le _, rfl, rfl, Below.refl _ _⟩
      case round =>
        obtain ⟨k, hk, rfl, hfb, hb⟩ := hrel
        have HF := Lib.hid hfb
        have HB := Lib.hid hb
        clear hfb
        by_cases hlt : k < path.length
        · obtain ⟨b, off, rfl, hbl, hc0, hc1⟩ := (HS.out.below hb).at2 hlt
          have hf := fb_place path k hlt
          have HD := Lib.hid hf
          have hp := isPlace_any path[k]
          have HP := Lib.hid hp
          clear hf hb hp
          cases hok : placeOk path[k]
          · rw [hok] at HP HD
            have HO := Lib.hid hok
            clear hok
            go_wp2_with (go_at_call 133; refine (HP.out _).mono ?_; rintro e w1 ⟨rfl, hb1⟩)
            go_ret
            exact ⟨ret_int (by rw [E.out, ← HF.out, HD.out]; rfl), below_tr HB.out hb1⟩
          · rw [hok] at HP HD
            have HO := Lib.hid hok
            clear hok
            go_wp2_with (go_at_call 133; refine (HP.out _).mono ?_; rintro e w1 ⟨rfl, hb1⟩)
            go_roundw
            case rel => exact ⟨k + 1, by omega, by go_num, by rw [← HF.out, HD.out]; rfl, below_tr HB.out hb1⟩
            case measure => simp [intOf]; omega
        · clear hb
          obtain rfl : k = path.length := by omega
          go_wp2
          go_ret
          exact ⟨ret_int (by rw [E.out, ← HF.out, fb_end _ _ _ (Nat.le_refl _)]), HB.out⟩
end Go.Proofs.Ytghglgaimhfedaa

namespace Go.Proofs.Ytghglgaimhfedaa
open Go.RowKit Go.Shelf
attribute [local go_sem] Oper.semAt_some wide_fn wide_depth round_fn round_depth

theorem postErr_bad {path : List Pt} {p : Pt} (h : placeOk p = false) : postErr path p = 2 := by unfold postErr; rw [h]; rfl
theorem postErr_on {path : List Pt} {p : Pt} (h : placeOk p = true) (x : Pt × Pt) (hx : x ∈ ways path) (ho : onWay x.1 x.2 p = true) : postErr path p = 13 := by
  unfold postErr; rw [if_pos h, if_pos (List.any_eq_true.2 ⟨x, hx, ho⟩)]
theorem postErr_ok {path : List Pt} {p : Pt} (h : placeOk p = true) (ho : ∀ x ∈ ways path, onWay x.1 x.2 p = false) : postErr path p = 0 := by
  unfold postErr; rw [if_pos h, if_neg]
  intro hc
  obtain ⟨x, hx, h1⟩ := List.any_eq_true.1 hc
  rw [ho x hx] at h1; cases h1

def NoneOn (p : Pt) (l : List (Pt × Pt)) : Prop := ∀ x ∈ l, onWay x.1 x.2 p = false
def SomeOn (p : Pt) (l : List (Pt × Pt)) : Prop := ∃ x ∈ l, onWay x.1 x.2 p = true
theorem NoneOn.snoc {p : Pt} {l : List (Pt × Pt)} {x : Pt × Pt} (h : NoneOn p l) (hx : onWay x.1 x.2 p = false) : NoneOn p (l ++ [x]) := by
  intro y hy
  rcases List.mem_append.1 hy with hy | hy
  · exact h y hy
  · rw [List.mem_singleton.1 hy]; exact hx
theorem SomeOn.snoc {p : Pt} (l : List (Pt × Pt)) {x : Pt × Pt} (hx : onWay x.1 x.2 p = true) : SomeOn p (l ++ [x]) := ⟨x, by simp, hx⟩
set_option maxHeartbeats 2000000 in
theorem postError_any (v : Value) (path : List Pt) (p : Pt) (w : World) (hs : Sl e2 2 w v path) (h0 : 0 < path.length) (h30 : path.length ≤ 30) (hsm : ∀ x ∈ ways path, Sm x.1 ∧ Sm x.2) :
    Calls Try.prog 129 #[v, .agg #[.int .i64 p.1, .int .i64 p.2]] w fun e w' => e = .returned (.int .i64 (postErr path p)) ∧ Below w.heap.size w w' := by
  have hvb := hs.blk h0
  obtain ⟨A, c, rfl, hcap⟩ := hs.form
  have HP := Lib.hid (placeError_any p)
  cases hok : placeOk p
  · have E : Hid (postErr path p = 2) := postErr_bad hok
    have E2 : placeErr p = 2 := by unfold placeErr; rw [hok]; rfl
    rw [E2] at HP
    clear hok E2 hs hvb
    go_enter Try.func129, Try.ntmps129
    go_wp2_with (go_at_call 159; refine (HP.out _).mono ?_; rintro e w1 ⟨rfl, hb1⟩; have k5 := (hb1.cell (p := ⟨w.heap.size + 1, 0, none⟩) (by simp)); have j5 := (hb1.frozen (p := ⟨w.heap.size + 1, 0, none⟩) (by simp)); simp at k5 j5)
    refine bodyPost_ret (v := .int .i64 2) (by simp [results, Try.results129, go_sem, k5]) rfl ⟨ret_int E.out.symm, below_set (below_tr (below_al (below_alloc1 _ _) _) hb1) (by show w.heap.size ≤ w.heap.size + 1; omega) _⟩
  · have E0 : placeErr p = 0 := by unfold placeErr; rw [hok]; rfl
    rw [E0] at HP
    have hp := Sm.of hok
    have HO := Lib.hid hok
    have HV := Lib.hid hvb
    have HS := Lib.hid hs
    have HM := Lib.hid hsm
    clear E0 hok hvb hs hsm
    refine (callsIn_wide (n := 0)).1 ?_
    refine callsIn_of_wp_marks Try.func129 rfl trivial ?_ rfl
    simp only [Try.ntmps129, List.size_toArray, List.length_cons, List.length_nil, Nat.reduceAdd, Nat.reduceSub, Array.replicate_succ, Array.replicate_zero, List.push_toArray, List.append_toArray, List.nil_append, List.cons_append]
    gi_wp2_with (first
      | (gi_at_call 159; refine (atWide (HP.out _)).mono ?_; rintro e w1 ⟨rfl, hb1⟩)
      | (gi_at_call 160; refine (atWide (ways_any _ _ _ _)).mono ?_; rintro e w2 ⟨rfl, rfl⟩))
    obtain ⟨W0, hW0⟩ : ∃ W0, W0 = w1.alloc (.cells #[.slice A path.length c] 107) := ⟨_, rfl⟩
    rw [← hW0]
    have hb01 : Below w.heap.size w w1 := below_tr (below_al (below_alloc1 _ _) _) hb1
    have hb0 : Below w.heap.size w W0 := by rw [hW0]; exact below_al hb01 _
    have hz1 : w.heap.size + 2 ≤ w1.heap.size := by have := hb1.size; simpa using this
    have hz0 : w1.heap.size + 1 ≤ W0.heap.size := by rw [hW0]; simp
    have aR : At W0 ⟨w.heap.size + 1, 0, none⟩ (.int .i64 0) := by
      rw [hW0]
      have h1 := At.new (w.alloc (.cells #[.int .i64 p.1, .int .i64 p.2] 61)) #[.int .i64 0] 30 0 _ rfl
      have h2 := (h1.below hb1).al (.cells #[.slice A path.length c] 107)
      simpa using h2
    have aP : ∀ j v, (#[Value.int .i64 p.1, .int .i64 p.2] : Array Value)[j]? = some v → At W0 ⟨w.heap.size, j, none⟩ v := by
      intro j v hv
      rw [hW0]
      exact ((((At.new w _ 61 j v hv).al _).below hb1).al _)
    have aP1 := aP 0 _ rfl
    have aP2 := aP 1 _ rfl
    have aB : W0.cell? ⟨w1.heap.size, 0, none⟩ = some (.slice A path.length c) := by rw [hW0]; exact (At.new w1 #[.slice A path.length c] 107 0 _ rfl).1
    have hsW := HS.out.below hb0
    clear aP hW0 hb1 hb01
    refine wp_rangeX (gf := 165) (lb := #[.pointer (some ⟨w1.heap.size, 0, none⟩)]) rfl (enters_of Try.func165 (by kernel_rfl) rfl)
      (ways_seq w1.heap.size _ path W0 h30 (by omega) aB hsW (fun k => k = w1.heap.size ∨ (Value.slice A path.length c).ownBlock = some k) (.inl rfl) (fun b hb => .inr hb)) (Below.refl _ _)
      (by
        rintro k (rfl | hk)
        · omega
        · have := HV.out k hk; omega) (fun _ => rfl)
      (fun pre W => (At W ⟨w.heap.size + 1, 0, none⟩ (.int .i64 0) ∧ At W ⟨w.heap.size, 0, none⟩ (.int .i64 p.1) ∧ At W ⟨w.heap.size, 1, none⟩ (.int .i64 p.2)) ∧ Below w.heap.size w W ∧ NoneOn p pre)
      (fun c pre W => c = .ret ∧ At W ⟨w.heap.size + 1, 0, none⟩ (.int .i64 13) ∧ Below w.heap.size w W ∧ SomeOn p pre)
      (OwnFrom.and (OwnFrom.and (own_at _ _ fun _ => _) (OwnFrom.and (own_at _ _ fun _ => _) (own_at _ _ fun _ => _))) (OwnFrom.and (ownFrom_below (Nat.le_refl _) (by omega)) (ownFrom_pure _ _)))
      (fun c => OwnFrom.and (ownFrom_pure _ _) (OwnFrom.and (own_at _ _ fun _ => _) (OwnFrom.and (ownFrom_below (Nat.le_refl _) (by omega)) (ownFrom_pure _ _)))) ⟨⟨aR, aP1, aP2⟩, hb0, fun x hx => by simp at hx⟩ ?round ?done ?stop
    case round =>
      rintro l pre ⟨⟨a1, a2⟩, ⟨b1, b2⟩⟩ W hl hlt hpre ⟨⟨hT, hP1, hP2⟩, hB, hno⟩
      have hsm := HM.out _ (pre_mem hpre)
      have hcr := fun w => liesOn_any (a1, a2) (b1, b2) p w hsm.1 hsm.2 hp
      have HC := Lib.hid hcr
      have HNO := Lib.hid hno
      clear hcr hsm hno
      simp only [encW]
      gi_wp2
      refine ⟨((Kep.refl _ _ _).alloc _).alloc _, fun W2 hTn => ?_⟩
      obtain ⟨x1, y1⟩ := box2 W #[.int .i64 a1, .int .i64 a2] #[.int .i64 b1, .int .i64 b2] 61 61
      obtain ⟨c1, f1⟩ := (x1 0 _ rfl).turn hTn
      obtain ⟨c2, f2⟩ := (x1 1 _ rfl).turn hTn
      obtain ⟨c3, f3⟩ := (y1 0 _ rfl).turn hTn
      obtain ⟨c4, f4⟩ := (y1 1 _ rfl).turn hTn
      have hT2 := ((hT.al (.cells #[.int .i64 a1, .int .i64 a2] 61)).al (.cells #[.int .i64 b1, .int .i64 b2] 61)).turn hTn
      have hP12 := ((hP1.al (.cells #[.int .i64 a1, .int .i64 a2] 61)).al (.cells #[.int .i64 b1, .int .i64 b2] 61)).turn hTn
      have hP22 := ((hP2.al (.cells #[.int .i64 a1, .int .i64 a2] 61)).al (.cells #[.int .i64 b1, .int .i64 b2] 61)).turn hTn
      have hB2 : Below w.heap.size w W2 := (below_al (below_al hB _) _).trans (hTn.below (by omega))
      have hT3 := hT2.lt
      simp only at hT3
      obtain ⟨c5, f5⟩ := hT2
      have c6 := hP12.1
      have c7 := hP22.1
      have KB := Lib.hid hB2
      have KP := Lib.hid (And.intro hP12 hP22)
      have KT : Hid (At W2 ⟨w.heap.size + 1, 0, none⟩ (.int .i64 0)) := ⟨c5, f5⟩
      clear x1 y1 hT hP1 hP2 hB hB2 hTn hP12 hP22 f1 f2 f3 f4
      cases hon : onWay (a1, a2) (b1, b2) p
      · rw [hon] at HC
        have HON := Lib.hid hon
        clear hon
        gi_wp2_with (gi_at_call 161; refine (inRnd l (HC.out _)).mono ?_; rintro e W3 ⟨rfl, hb3⟩)
        exact ⟨(Kep.refl _ _ _).call hb3, ⟨KT.out.below hb3, KP.out.1.below hb3, KP.out.2.below hb3⟩, below_tr KB.out hb3, HNO.out.snoc HON.out⟩
      · rw [hon] at HC
        have HON := Lib.hid hon
        clear hon
        gi_wp2_with (gi_at_call 161; refine (inRnd l (HC.out _)).mono ?_; rintro e W3 ⟨rfl, hb3⟩; have k5 := (hb3.cell (p := ⟨w.heap.size + 1, 0, none⟩) hT3).trans c5; have j5 := (hb3.frozen (p := ⟨w.heap.size + 1, 0, none⟩) hT3).trans f5)
        refine ⟨Kep.setCell ((Kep.refl _ _ _).call hb3) ?_ _, rfl, (KT.out.below hb3).set, below_set (below_tr KB.out hb3) (by show w.heap.size ≤ w.heap.size + 1; omega) _, SomeOn.snoc _ HON.out⟩
        rintro (h | h)
        · simp only at h; omega
        · have := HV.out _ h; simp only at this; omega
    case done =>
      rintro D W hD ⟨⟨hT, _⟩, hB, hno⟩ hK
      have E : Hid (postErr path p = 0) := postErr_ok HO.out hno
      have KT := Lib.hid hT
      obtain ⟨hT1, hT2⟩ := hT
      have HB := Lib.hid hB
      clear hno hB
      gi_wp2
      have hK2 := (KeepsOthers.setCell W ⟨w.heap.size + 1, 0, none⟩ (.int .i64 0)).same D _ hK rfl
      have k5 := ((KT.out.set (u := .int .i64 0)).put (o' := .deferred none) hK2 rfl rfl).1
      refine ⟨by simp, .inl ⟨_, _, rfl, run_takeDeferred hK2, ?_⟩⟩
      exact ⟨.int .i64 0, by simp [results, Try.results129, go_sem, k5], ret_int E.out.symm, below_put (below_set HB.out (by show w.heap.size ≤ w.heap.size + 1; omega) _) (Nat.le_refl _) (by omega) hK2⟩
    case stop =>
      rintro D c pre W hD hpre ⟨rfl, hT, hB, x, hx, hon⟩ hK
      have E : Hid (postErr path p = 13) := postErr_on HO.out x (hpre.subset hx) hon
      have KT := Lib.hid hT
      obtain ⟨hT1, hT2⟩ := hT
      have HB := Lib.hid hB
      clear hB hx hon hpre
      gi_wp2
      have k5 := (KT.out.put (o' := .deferred none) hK rfl rfl).1
      refine ⟨by simp, .inl ⟨_, _, rfl, run_takeDeferred hK, ?_⟩⟩
      exact ⟨.int .i64 13, by simp [results, Try.results129, go_sem, k5], ret_int E.out.symm, below_put HB.out (Nat.le_refl _) (by omega) hK⟩
end Go.Proofs.Ytghglgaimhfedaa

namespace Go.Proofs.Ytghglgaimhfedaa
open Go.RowKit Go.Shelf

/-- What a round at the way k reads. -/
theorem Sl.way {w : World} {A : Option Addr} {n c : Nat} {path : List Pt} (h : Sl e2 2 w (.slice A n c) path) {k : Nat} (hk : k < path.length) (hbig : path.length ≤ 1000) :
    ∃ (b off j : Nat) (a1 a2 b1 b2 : Int), A = some ⟨b, off, none⟩ ∧ b < w.heap.size ∧ j < path.length ∧ (ways path).take (k + 1) = (ways path).take k ++ [((a1, a2), (b1, b2))] ∧ ((a1, a2), (b1, b2)) ∈ ways path ∧
      w.cell? ⟨b, off + k * 2, none⟩ = some (.int .i64 a1) ∧ w.cell? ⟨b, off + k * 2 + 1, none⟩ = some (.int .i64 a2) ∧ w.cell? ⟨b, off + j * 2, none⟩ = some (.int .i64 b1) ∧ w.cell? ⟨b, off + j * 2 + 1, none⟩ = some (.int .i64 b2) ∧
      ((path.length : Int) == 0) = false ∧ path ≠ [] ∧ IntKind.i64.wrap ((k : Int) + 1) = (k : Int) + 1 ∧ ((k : Int) + 1).tmod (path.length : Int) = (j : Int) ∧ ((k : Int) + 1) % (path.length : Int) = (j : Int) := by
  obtain ⟨b, off, rfl, hbl, hc0, hc1⟩ := h.at2 hk
  have hjl : (k + 1) % path.length < path.length := Nat.mod_lt _ (by omega)
  obtain ⟨b', off', e', _, hd0, hd1⟩ := h.at2 hjl
  injection e' with e'
  injection e' with e1 e2'
  subst e1; subst e2'
  have hwl : k < (ways path).length := by rw [ways_len]; exact hk
  have hway : (ways path)[k] = (path[k], path[(k + 1) % path.length]) := by rw [ways_at _ _ hk]; unfold wayAt; rw [getD_eq _ _ _ hk, getD_eq _ _ _ hjl]
  have hm : (path[k], path[(k + 1) % path.length]) ∈ ways path := by rw [← hway]; exact List.getElem_mem _
  refine ⟨b, off, (k + 1) % path.length, path[k].1, path[k].2, path[(k + 1) % path.length].1, path[(k + 1) % path.length].2, rfl, hbl, hjl, ?_, hm, hc0, hc1, hd0, hd1, ?_, ?_, IntWalk.i64_in _ (by omega), ?_, rfl⟩
  · rw [List.take_succ_eq_append_getElem hwl, hway]
  · rw [beq_eq_false_iff_ne]; omega
  · rintro rfl; simp at hk
  · rw [Int.tmod_eq_emod_of_nonneg (by omega)]; rfl

set_option maxRecDepth 100000 in
set_option maxHeartbeats 1000000 in
theorem PostErr_any (v : Value) (path : List Pt) (p : Pt) (w : World) (hs : Sl e2 2 w v path) (h30 : path.length ≤ 30) (hsm : ∀ x ∈ ways path, Sm x.1 ∧ Sm x.2) :
    Calls Try.prog 77 #[v, .agg #[.int .i64 p.1, .int .i64 p.2]] w fun e w' => e = .returned (.int .i64 (postErr path p)) ∧ Below w.heap.size w w' := by
  obtain ⟨A, c, rfl, hcap⟩ := hs.form
  have HP := Lib.hid (isPlace_any p)
  cases hok : placeOk p
  · have E : Hid (postErr path p = 2) := postErr_bad hok
    rw [hok] at HP
    clear hok hs
    go_enter Try.func77, Try.ntmps77
    go_wp2_with (go_at_call 133; refine (HP.out _).mono ?_; rintro e w1 ⟨rfl, hb1⟩)
    go_ret
    exact ⟨ret_int E.out.symm, below_tr (below_alloc1 _ _) hb1⟩
  · rw [hok] at HP
    have HO := Lib.hid hok
    have hp := Sm.of hok
    have HS := Lib.hid hs
    have HM := Lib.hid hsm
    clear hs hok hsm
    go_enter Try.func77, Try.ntmps77
    go_wp2_with (go_at_call 133; refine (HP.out _).mono ?_; rintro e w1 ⟨rfl, hb1⟩)
    go_loopw [5] (fun i wr => ∃ k : Nat, k ≤ path.length ∧ i = .int .i64 k ∧ NoneOn p ((ways path).take k) ∧ Below w.heap.size w wr ∧ At wr ⟨w.heap.size, 0, none⟩ (.int .i64 p.1) ∧ At wr ⟨w.heap.size, 1, none⟩ (.int .i64 p.2)) (fun i _ => path.length - (intOf i).toNat)
    case atStart =>
      exact ⟨0, Nat.zero_le _, rfl, fun x hx => by simp at hx, below_tr (below_alloc1 _ _) hb1, (At.new w #[.int .i64 p.1, .int .i64 p.2] 61 0 _ rfl).below hb1, (At.new w #[.int .i64 p.1, .int .i64 p.2] 61 1 _ rfl).below hb1⟩
    case round =>
      obtain ⟨k, hk, rfl, hno, hb, hq1, hq2⟩ := hrel
      have HN := Lib.hid hno
      have HB := Lib.hid hb
      have HQ := Lib.hid (And.intro hq1 hq2)
      have g1 := hq1.1
      have g2 := hq2.1
      clear hno hq1 hq2
      by_cases hlt : k < path.length
      · obtain ⟨b, off, j, a1, a2, b1, b2, rfl, hbl, hjl, htk, hmem, hc0, hc1, hd0, hd1, hL, hne, h8, h9, h5⟩ := (HS.out.below hb).way hlt (by omega)
        have hjl' : (j : Int) < (path.length : Int) := by omega
        have hon := fun w => on_any (a1, a2) (b1, b2) p w (HM.out _ hmem).1 (HM.out _ hmem).2 hp
        have HT := Lib.hid htk
        have HON := Lib.hid hon
        have HME := Lib.hid hmem
        clear htk hmem hon hb
        cases hc : onWay (a1, a2) (b1, b2) p
        · rw [hc] at HON
          have HC := Lib.hid hc
          clear hc
          go_wp2_with fail
          go_still_tail 13, (by kernel_rfl)
          go_wp2_with (go_at_call 134; refine (HON.out _).mono ?_; rintro e w2 ⟨rfl, hb2⟩)
          go_roundw
          case rel => exact ⟨k + 1, by omega, by go_num, by rw [HT.out]; exact HN.out.snoc HC.out, below_tr HB.out.drew hb2, HQ.out.1.drew.below hb2, HQ.out.2.drew.below hb2⟩
          case measure => simp [intOf]; omega
        · rw [hc] at HON
          have E : Hid (postErr path p = 13) := postErr_on HO.out _ HME.out hc
          clear hc
          go_wp2_with fail
          go_still_tail 13, (by kernel_rfl)
          go_wp2_with (go_at_call 134; refine (HON.out _).mono ?_; rintro e w2 ⟨rfl, hb2⟩)
          go_ret
          exact ⟨ret_int E.out.symm, below_tr HB.out.drew hb2⟩
      · clear hb
        obtain rfl : k = path.length := by omega
        have E : Hid (postErr path p = 0) := postErr_ok HO.out (by have := HN.out; rw [List.take_of_length_le (by rw [ways_len]; omega)] at this; exact this)
        go_wp2_with fail
        go_ret
        exact ⟨ret_int E.out.symm, HB.out⟩
end Go.Proofs.Ytghglgaimhfedaa

namespace Go.Proofs.Ytghglgaimhfedaa
open Go.RowKit Go.Shelf

theorem winding_take (path : List Pt) (p : Pt) : winding path p = (((ways path).take path.length).map fun x => cross x.1 x.2 p).sum := by
  rw [List.take_of_length_le (by rw [ways_len]; omega)]; rfl
set_option maxRecDepth 100000 in
set_option maxHeartbeats 4000000 in
theorem Winding_any (v : Value) (path : List Pt) (p : Pt) (w : World) (hs : Sl e2 2 w v path) (h30 : path.length ≤ 30) (hsm : ∀ x ∈ ways path, Sm x.1 ∧ Sm x.2) (hp : Sm p) :
    Calls Try.prog 78 #[v, .agg #[.int .i64 p.1, .int .i64 p.2]] w fun e w' => e = .returned (.int .i64 (winding path p)) ∧ Below w.heap.size w w' := by
  obtain ⟨A, c, rfl, hcap⟩ := hs.form
  have HS := Lib.hid hs
  have HM := Lib.hid hsm
  clear hs hsm
  go_enter Try.func78, Try.ntmps78
  go_wp2_with fail
  go_loopw [5, 6, 7, 8] (fun n i _ _ wr => ∃ k : Nat, k ≤ path.length ∧ i = .int .i64 k ∧ n = .int .i64 (((ways path).take k).map fun x => cross x.1 x.2 p).sum ∧ Below w.heap.size w wr ∧ At wr ⟨w.heap.size, 0, none⟩ (.int .i64 p.1) ∧ At wr ⟨w.heap.size, 1, none⟩ (.int .i64 p.2)) (fun _ i _ _ _ => path.length - (intOf i).toNat)
  case atStart => exact ⟨0, Nat.zero_le _, rfl, rfl, below_alloc1 _ _, At.new w #[.int .i64 p.1, .int .i64 p.2] 61 0 _ rfl, At.new w #[.int .i64 p.1, .int .i64 p.2] 61 1 _ rfl⟩
  case round =>
    obtain ⟨k, hk, rfl, rfl, hb, hq1, hq2⟩ := hrel
    have HB := Lib.hid hb
    have HQ := Lib.hid (And.intro hq1 hq2)
    have g1 := hq1.1
    have g2 := hq2.1
    have g3 := hq1.lt
    simp only at g3
    clear hq1 hq2
    by_cases hlt : k < path.length
    · obtain ⟨b, off, j, a1, a2, b1, b2, rfl, hbl, hjl, htk, hmem, hc0, hc1, hd0, hd1, hL, hne, h8, h9, h5⟩ := (HS.out.below hb).way hlt (by omega)
      have hjl' : (j : Int) < (path.length : Int) := by omega
      have h7 : (0 : Int) ≤ (k : Int) + 1 := by omega
      have hon := fun w => side_any (a1, a2) (b1, b2) p w (HM.out _ hmem).1 (HM.out _ hmem).2 hp
      have HT := Lib.hid htk
      have HON := Lib.hid hon
      have hsum : (((ways path).take (k + 1)).map fun x => cross x.1 x.2 p).sum = (((ways path).take k).map fun x => cross x.1 x.2 p).sum + cross (a1, a2) (b1, b2) p := by rw [htk]; simp
      have HN := Lib.hid hsum
      have hbd := sum_bd (((ways path).take k).map fun x => cross x.1 x.2 p) (by intro y hy; obtain ⟨x, _, rfl⟩ := List.mem_map.1 hy; exact cross_bd _ _ _)
      have hlen : (((ways path).take k).map fun x => cross x.1 x.2 p).length ≤ k := by rw [List.length_map]; exact List.length_take_le _ _
      have hcr : cross (a1, a2) (b1, b2) p = if a2 ≤ p.2 ∧ p.2 < b2 ∧ 0 < side (a1, a2) (b1, b2) p then 1 else if b2 ≤ p.2 ∧ p.2 < a2 ∧ side (a1, a2) (b1, b2) p < 0 then -1 else 0 := rfl
      have HCR := Lib.hid hcr
      clear htk hmem hon hb hsum hcr
      generalize (((ways path).take k).map fun x => cross x.1 x.2 p).sum = sm at *
      generalize cross (a1, a2) (b1, b2) p = cr at *
      generalize side (a1, a2) (b1, b2) p = sd at *
      obtain ⟨p1, p2⟩ := p
      simp only at *
      have hsm1 : -(k : Int) ≤ sm := by omega
      have hsm2 : sm ≤ (k : Int) := by omega
      clear hbd hlen
      have hbs1 : b < wr.heap.size + 1 := by omega
      have g4 : w.heap.size < wr.heap.size + 1 := by omega
      go_upto_region 5 with fail
      go_cut [7, 8] (fun va vb wx => ∃ X Y : Nat, va = .pointer (some ⟨X, 0, none⟩) ∧ vb = .pointer (some ⟨Y, 0, none⟩) ∧ (At wx ⟨X, 0, none⟩ (.int .i64 a1) ∧ At wx ⟨X, 1, none⟩ (.int .i64 a2) ∧ At wx ⟨Y, 0, none⟩ (.int .i64 b1) ∧ At wx ⟨Y, 1, none⟩ (.int .i64 b2)) ∧
        (At wx ⟨w.heap.size, 0, none⟩ (.int .i64 p1) ∧ At wx ⟨w.heap.size, 1, none⟩ (.int .i64 p2)) ∧ Below w.heap.size w wx)
      case first =>
        go_region
        · go_wp2_with fail
          go_meet
          obtain ⟨u, v⟩ := box2 wr #[.int .i64 a1, .int .i64 a2] #[.int .i64 b1, .int .i64 b2] 61 61
          exact ⟨wr.heap.size, wr.heap.size + 1, rfl, rfl, ⟨(u 0 _ rfl).drew, (u 1 _ rfl).drew, (v 0 _ rfl).drew, (v 1 _ rfl).drew⟩, ⟨((HQ.out.1.al _).al _).drew, ((HQ.out.2.al _).al _).drew⟩, (below_al (below_al HB.out _) _).drew⟩
        · go_wp2_with fail
          go_meet
          obtain ⟨u, v⟩ := box2 wr #[.int .i64 b1, .int .i64 b2] #[.int .i64 a1, .int .i64 a2] 61 61
          exact ⟨wr.heap.size + 1, wr.heap.size, rfl, rfl, ⟨(v 0 _ rfl).drew, (v 1 _ rfl).drew, (u 0 _ rfl).drew, (u 1 _ rfl).drew⟩, ⟨((HQ.out.1.al _).al _).drew, ((HQ.out.2.al _).al _).drew⟩, (below_al (below_al HB.out _) _).drew⟩
      case rest =>
        obtain ⟨X, Y, rfl, rfl, ⟨A1, A2, B1, B2⟩, ⟨P1, P2⟩, HBc⟩ := hcut
        have c1 := A1.1
        have c2 := A2.1
        have c3 := B1.1
        have c4 := B2.1
        have c5 := P1.1
        have c6 := P2.1
        have KA := Lib.hid (And.intro A1 (And.intro A2 (And.intro B1 (And.intro B2 (And.intro P1 P2)))))
        have KB := Lib.hid HBc
        clear A1 A2 B1 B2 P1 P2 HBc hc0 hc1 hd0 hd1 g1 g2 HB HQ h8 h9 h5 h7 hL hne hjl' hbs1 g4 hbl g3
        by_cases x1 : a2 ≤ p2
        all_goals by_cases x2 : p2 < b2
        all_goals by_cases x5 : 0 < sd
        all_goals by_cases x6 : sd < 0
        all_goals try omega
        all_goals
          go_wp2_with (first
            | (go_at_call 135; refine (HON.out _).mono ?_; rintro e w2 ⟨rfl, hb2⟩; have A1 := KA.out.1.below hb2; obtain ⟨d1, _⟩ := A1; obtain ⟨d2, _⟩ := KA.out.2.1.below hb2; obtain ⟨d3, _⟩ := KA.out.2.2.1.below hb2; obtain ⟨d4, _⟩ := KA.out.2.2.2.1.below hb2; obtain ⟨d5, _⟩ := KA.out.2.2.2.2.1.below hb2; obtain ⟨d6, _⟩ := KA.out.2.2.2.2.2.below hb2; have ⟨P5, P6⟩ := KA.out.2.2.2.2; have K2 : Hid (Below w.heap.size w w2 ∧ At w2 ⟨w.heap.size, 0, none⟩ (.int .i64 p1) ∧ At w2 ⟨w.heap.size, 1, none⟩ (.int .i64 p2)) := ⟨below_tr KB.out hb2, P5.below hb2, P6.below hb2⟩; clear P5 P6 hb2)
            | (go_at_call 135; refine (HON.out _).mono ?_; rintro e w3 ⟨rfl, hb3⟩))
          go_roundw
          case rel =>
            first
              | exact ⟨k + 1, by omega, by go_num, congrArg (Value.int .i64) (by rw [HN.out, HCR.out]; (repeat' split) <;> omega), K2.out.1, K2.out.2.1, K2.out.2.2⟩
              | exact ⟨k + 1, by omega, by go_num, congrArg (Value.int .i64) (by rw [HN.out, HCR.out]; (repeat' split) <;> omega), KB.out, KA.out.2.2.2.2.1, KA.out.2.2.2.2.2⟩
          case measure => simp [intOf]; omega
    · clear hb
      obtain rfl : k = path.length := by omega
      go_wp2_with fail
      go_ret
      exact ⟨ret_int (winding_take path p).symm, HB.out⟩
end Go.Proofs.Ytghglgaimhfedaa

namespace Go.Proofs.Ytghglgaimhfedaa
open Go.RowKit Go.Shelf

theorem intinfo : (Try.prog.info? 3).map (fun i => (i.zero, i.size, i.bytes)) = some (some (.int .i64 0), 1, 8) := by kernel_rfl

set_option maxHeartbeats 400000 in
theorem PostsErr_any (v u : Value) (path posts : List Pt) (w : World) (hs : Sl e2 2 w v path) (hu : Sl e2 2 w u posts) (h30 : path.length ≤ 30) (hsm : ∀ x ∈ ways path, Sm x.1 ∧ Sm x.2) (hbig : posts.length ≤ 1000) :
    Calls Try.prog 79 #[v, u] w fun e w' => e = .returned (.int .i64 (postsErr path posts)) ∧ Below w.heap.size w w' := by
  obtain ⟨A, c, rfl, hcap⟩ := hs.form
  obtain ⟨A', c', rfl, hcap'⟩ := hu.form
  have HS := Lib.hid hs
  have HU := Lib.hid hu
  have HM := Lib.hid hsm
  clear hs hu hsm
  by_cases h1 : 10 < posts.length
  · have E : Hid (postsErr path posts = 8) := by unfold Hid postsErr; rw [if_pos h1]
    go_enter Try.func79, Try.ntmps79
    go_wp2_with fail
    go_ret
    exact ⟨ret_int E.out.symm, Below.refl _ _⟩
  · have E : Hid (postsErr path posts = (fb (postErr path) (posts.drop 0) 0).2) := by unfold Hid postsErr; rw [if_neg h1]; rfl
    go_enter Try.func79, Try.ntmps79
    go_wp2_with fail
    go_loopw [5, 6] (fun i _ wr => ∃ k : Nat, k ≤ posts.length ∧ i = .int .i64 k ∧ (fb (postErr path) (posts.drop k) k).2 = (fb (postErr path) (posts.drop 0) 0).2 ∧ Below w.heap.size w wr) (fun i _ _ => posts.length - (intOf i).toNat)
    case atStart => exact ⟨0, Nat.zero_le _, rfl, rfl, Below.refl _ _⟩
    case round =>
      obtain ⟨k, hk, rfl, hfb, hb⟩ := hrel
      have HF := Lib.hid hfb
      have HB := Lib.hid hb
      clear hfb
      by_cases hlt : k < posts.length
      · obtain ⟨b, off, rfl, hbl, hc0, hc1⟩ := (HU.out.below hb).at2 hlt
        have hf := fb_drop (postErr path) posts k hlt
        have HD := Lib.hid hf
        have hp := PostErr_any _ path posts[k] wr (HS.out.below hb) h30 HM.out
        have HP := Lib.hid hp
        clear hf hb hp
        by_cases he : postErr path posts[k] = 0
        · have he' := ne0 he
          generalize postErr path posts[k] = er at *
          go_wp2_with (go_at_call 77; refine HP.out.mono ?_; rintro e w1 ⟨rfl, hb1⟩)
          go_roundw
          case rel => exact ⟨k + 1, by omega, by go_num, by rw [← HF.out, HD.out, if_pos he], below_tr HB.out hb1⟩
          case measure => simp [intOf]; omega
        · have he' := ne1 he
          generalize postErr path posts[k] = er at *
          go_wp2_with (go_at_call 77; refine HP.out.mono ?_; rintro e w1 ⟨rfl, hb1⟩)
          go_ret
          exact ⟨ret_int (by rw [E.out, ← HF.out, HD.out, if_neg he]), below_tr HB.out hb1⟩
      · clear hb
        obtain rfl : k = posts.length := by omega
        go_wp2_with fail
        go_ret
        exact ⟨ret_int (by rw [E.out, ← HF.out, fb_end _ _ _ (Nat.le_refl _)]), HB.out⟩

theorem wound_drop (path posts : List Pt) (k : Nat) (h : k < posts.length) : wound path (posts.drop k) k = if winding path posts[k] = 0 then wound path (posts.drop (k + 1)) (k + 1) else (k : Int) :: wound path (posts.drop (k + 1)) (k + 1) := by
  rw [List.drop_eq_getElem_cons h, wound]
set_option maxHeartbeats 1000000 in
theorem Wound_any (v u : Value) (path posts : List Pt) (w : World) (hs : Sl e2 2 w v path) (hu : Sl e2 2 w u posts) (h30 : path.length ≤ 30) (hsm : ∀ x ∈ ways path, Sm x.1 ∧ Sm x.2) (hbig : posts.length ≤ 1000) (hp : ∀ p ∈ posts, Sm p) :
    Calls Try.prog 80 #[v, u] w fun e w' => ∃ r, e = .returned r ∧ Ow e1 1 3 w.heap.size w' r (wound path posts 0) ∧ Below w.heap.size w w' := by
  obtain ⟨A, c, rfl, hcap⟩ := hs.form
  obtain ⟨A', c', rfl, hcap'⟩ := hu.form
  obtain ⟨i0, hi, hz0, hz1, hz2⟩ := info_parts intinfo
  have HS := Lib.hid hs
  have HU := Lib.hid hu
  have HM := Lib.hid hsm
  have HP := Lib.hid hp
  clear hs hu hsm hp
  go_enter Try.func80, Try.ntmps80
  go_wp2_with fail
  go_loopw [5, 6] (fun r i wr => ∃ (k : Nat) (acc : List Int), k ≤ posts.length ∧ i = .int .i64 k ∧ acc.length ≤ k ∧ Ow e1 1 3 w.heap.size wr r acc ∧ acc ++ wound path (posts.drop k) k = wound path posts 0 ∧ Below w.heap.size w wr) (fun _ i _ => posts.length - (intOf i).toNat)
  case atStart => exact ⟨0, [], Nat.zero_le _, rfl, Nat.le_refl _, Ow.nil _ _ _ _ _, rfl, Below.refl _ _⟩
  case round =>
    obtain ⟨k, acc, hk, rfl, hal, hown, hfb, hb⟩ := hrel
    have HF := Lib.hid hfb
    have HB := Lib.hid hb
    have HO := Lib.hid hown
    clear hfb hown
    by_cases hlt : k < posts.length
    · obtain ⟨b, off, rfl, hbl, hc0, hc1⟩ := (HU.out.below hb).at2 hlt
      have hf := wound_drop path posts k hlt
      have HD := Lib.hid hf
      have hp := Winding_any _ path posts[k] wr (HS.out.below hb) h30 HM.out (HP.out _ (List.getElem_mem _))
      have HW := Lib.hid hp
      clear hf hb hp
      by_cases he : winding path posts[k] = 0
      · have he' := ne0 he
        generalize winding path posts[k] = er at *
        go_wp2_with (go_at_call 78; refine HW.out.mono ?_; rintro e w1 ⟨rfl, hb1⟩)
        go_roundw
        case rel => exact ⟨k + 1, acc, by omega, by go_num, by omega, HO.out.below hb1, by rw [← HF.out, HD.out, if_pos he], below_tr HB.out hb1⟩
        case measure => simp [intOf]; omega
      · have he' := ne1 he
        generalize winding path posts[k] = er at *
        go_wp2_with (first
          | (go_at_call 78; refine HW.out.mono ?_; rintro e w1 ⟨rfl, hb1⟩; have HO1 := Lib.hid (HO.out.below hb1); have HB1 := Lib.hid (below_tr HB.out hb1); clear hb1)
          | (at_builtin; refine wpList_append_own _ rfl _ _ 36 rfl w.heap.size 3 i0 _ 1 8 Try.underlying36 hi hz0 hz1 hz2 rfl (by decide) _ _ _ rfl (HO1.out.own.alloc _) ⟨_, 0, none⟩ 1 1 (e1 k) rfl rfl (cells_new _ _ _) (e1_one _) (by simp only [maxLen]; omega) (by omega) (by have := HB1.out.size; simp; omega) ?_; intro v1 w2 hown1 hg1 _; have HO2 := Lib.hid hown1; have HG := Lib.hid hg1; clear hown1 hg1))
        go_roundw
        case rel => exact ⟨k + 1, acc ++ [(k : Int)], by omega, by go_num, by simp; omega, Ow.snoc HO2.out, by rw [← HF.out, HD.out, if_neg he]; simp, (HO1.out.alloc _).grown HG.out (below_al HB1.out _) (Nat.le_refl _)⟩
        case measure => simp [intOf]; omega
    · clear hb
      obtain rfl : k = posts.length := by omega
      go_wp2_with fail
      go_ret
      refine ⟨_, rfl, ?_, HB.out⟩
      have := HF.out
      rw [List.drop_of_length_le (Nat.le_refl _), wound, List.append_nil] at this
      rw [← this]
      exact HO.out
end Go.Proofs.Ytghglgaimhfedaa
