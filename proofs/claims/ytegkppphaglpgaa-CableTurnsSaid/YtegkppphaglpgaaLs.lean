/-
  Walks of chapter 1's bends of a line.
-/
import Derived.Test.YtegkppphaglpgaaLr2
import Derived.Test.YtegkppphaglpgaaLo
import Derived.Test.YtegkppphaglpgaaWg
namespace Go.Proofs.Ytegkppphaglpgaa
open Go.RowKit Go.Shelf
attribute [local go_sem] monoUpon_value monoUpon_skip monoUpon_enter

def bendsF : List (Int × Int) → List (Int × Int)
  | a :: b :: r => bend a b :: bendsF (b :: r)
  | _ => []
def bends (l : Ln) (c : List Int) : List (Int × Int) := bendsF (tensions l c)
def bendsOf (l : Ln) (c : List Int) : List (Int × Int) × Int := if shapeErr l c = 0 then (bends l c, 0) else ([], shapeErr l c)
theorem bendsF_len : ∀ ts : List (Int × Int), (bendsF ts).length = ts.length - 1
  | [] => rfl
  | [_] => rfl
  | _ :: b :: r => by simp only [bendsF, List.length_cons]; rw [bendsF_len (b :: r)]; simp
theorem bendsF_at : ∀ (ts : List (Int × Int)) (i : Nat) (h : i + 1 < ts.length), (bendsF ts)[i]? = some (bend ts[i] ts[i + 1])
  | _ :: _ :: _, 0, _ => rfl
  | _ :: b :: r, i + 1, h => by
    simp only [bendsF, List.getElem?_cons_succ, List.getElem_cons_succ]
    exact bendsF_at (b :: r) i (by simpa using h)
theorem bendsF_take (ts : List (Int × Int)) (i : Nat) (h : i + 1 < ts.length) : (bendsF ts).take (i + 1) = (bendsF ts).take i ++ [bend ts[i] ts[i + 1]] := by
  have hl : i < (bendsF ts).length := by rw [bendsF_len]; omega
  rw [List.take_succ_eq_append_getElem hl]
  congr 2
  have := bendsF_at ts i h
  rw [List.getElem?_eq_getElem hl] at this
  exact Option.some.inj this
theorem shape_ok {l : Ln} {c : List Int} (h : shapeErr l c = 0) : currentsErr l c = 0 ∧ slackErr l = 0 := by
  unfold shapeErr at h
  by_cases h1 : currentsErr l c = 0
  · rw [if_pos h1] at h; exact ⟨h1, h⟩
  · rw [if_neg h1] at h; exact absurd h h1
theorem tensions_fo {l : Ln} {c : List Int} (h : shapeErr l c = 0) : ∀ t ∈ tensions l c, Fo t := by
  obtain ⟨h1, h2⟩ := shape_ok h
  obtain ⟨h3, h4⟩ := currentsErr_ok h1
  have hb := cursErr_ok h4
  have hl := lineErr_ok h3
  intro t ht
  unfold tensions at ht
  obtain ⟨p, hp, rfl⟩ := List.mem_map.1 ht
  have hz := pulls_pos hb h2 p hp
  have hk := pulls_ok hl hb p hp
  exact ⟨⟨hk.l0, hk.l1⟩, ⟨hz, hk.z1⟩⟩
theorem tensions_len {l : Ln} {c : List Int} (h : shapeErr l c = 0) : 0 < (tensions l c).length ∧ (tensions l c).length ≤ 10 := by
  obtain ⟨h1, h2⟩ := shape_ok h
  obtain ⟨h3, h4⟩ := currentsErr_ok h1
  have hb := cursErr_ok h4
  have hl := lineErr_ok h3
  have : (tensions l c).length = l.ks.length := by
    unfold tensions pulls
    rw [List.length_map]
    exact pullsF_len _ _ _ _ _ hb.len
  rw [this]
  exact ⟨hl.n0, hl.n1⟩
theorem fracinfo : (Try.prog.info? 75).map (fun i => (i.zero, i.size, i.bytes)) = some (some (.agg #[.int .i64 0, .int .i64 0]), 2, 16) := by kernel_rfl
theorem ret_list2 {q : List (Int × Int) × Int} {l : List (Int × Int)} {a : Int} {r : Value} {e : TypeId} {base : Nat} {w : World} (h : q = (l, a)) (ho : Ow e2 2 e base w r l) :
    Ending.returned (.tuple #[r, .int .i64 a]) = .returned (.tuple #[r, .int .i64 q.2]) ∧ Ow e2 2 e base w r q.1 := by
  subst h; exact ⟨rfl, ho⟩
/-- A row of one pair that has just been laid. -/
theorem cells_pair (w : World) (p : Int × Int) (t : TypeId) : ∀ j u, (e2 p)[j]? = some u → (w.alloc (.cells #[.int .i64 p.1, .int .i64 p.2] t)).cell? ((⟨w.heap.size, 0, none⟩ : Addr).add j) = some u := cells_new w (e2 p) t
theorem slp (w : World) (p : Int × Int) (t : TypeId) : Sl e2 2 (w.alloc (.cells #[.int .i64 p.1, .int .i64 p.2] t)) (.slice (some ⟨w.heap.size, 0, none⟩) 1 1) [p] :=
  (Ow.lit (enc := e2) (s := 2) (base := w.heap.size) w #[.int .i64 p.1, .int .i64 p.2] [p] (Nat.le_refl _) (by simp) rfl (by simp [e2])).sl e2_len
set_option maxRecDepth 100000 in
set_option maxHeartbeats 1000000 in
theorem BendsOf_any (v u : Value) (l : Ln) (cu : List Int) (w : World) (hs : Sl e3 3 w v l.ks) (hu : Sl e1 1 w u cu) (hbig : l.ks.length ≤ 1000) (hbig' : cu.length ≤ 1000) :
    Calls Try.prog 42 #[.agg #[.int .i64 l.x, .int .i64 l.z, v], u] w fun e w' => ∃ r, e = .returned (.tuple #[r, .int .i64 (bendsOf l cu).2]) ∧ Ow e2 2 75 w.heap.size w' r (bendsOf l cu).1 ∧ Below w.heap.size w w' := by
  obtain ⟨i0, hi, hz0, hz1, hz2⟩ := info_parts fracinfo
  have HC := Lib.hid (shapeError_any v u l cu _ (hs.alloc (.cells #[.int .i64 l.x, .int .i64 l.z, v] 26)) (hu.alloc (.cells #[.int .i64 l.x, .int .i64 l.z, v] 26)) hbig hbig')
  have HT := Lib.hid (fun w' (hw : Below w.heap.size w w') => TensionsOf_any v u l cu w' (hs.below hw) (hu.below hw) hbig hbig')
  by_cases h1 : shapeErr l cu = 0
  · have E : Hid (bendsOf l cu = (bendsF (tensions l cu), 0)) := if_pos h1
    have HF := Lib.hid (tensions_fo h1)
    have hlen := tensions_len h1
    have hte : tensionsOf l cu = (tensions l cu, 0) := if_pos (shape_ok h1).1
    rw [hte] at HT
    rw [h1] at HC
    clear h1 hte
    generalize tensions l cu = ts at *
    obtain ⟨A, c, rfl, hcap⟩ := hs.form
    obtain ⟨A', c', rfl, hcap'⟩ := hu.form
    clear hs hu
    simp only at HT
    have hl1 : (ts.length : Int) - 1 = ((ts.length - 1 : Nat) : Int) := by omega
    go_enter Try.func42, Try.ntmps42
    go_wp2_with (first
      | (go_at_call 103; refine HC.out.mono ?_; rintro e w1 ⟨rfl, hb1⟩; obtain ⟨q0, _⟩ := (At.new w #[.int .i64 l.x, .int .i64 l.z, .slice A l.ks.length c] 26 0 _ rfl).below hb1; obtain ⟨q1, _⟩ := (At.new w #[.int .i64 l.x, .int .i64 l.z, .slice A l.ks.length c] 26 1 _ rfl).below hb1; obtain ⟨q2, _⟩ := (At.new w #[.int .i64 l.x, .int .i64 l.z, .slice A l.ks.length c] 26 2 _ rfl).below hb1; have HB1 := Lib.hid (below_tr (below_alloc1 _ _) hb1); clear hb1)
      | (go_at_call 28; refine (HT.out _ HB1.out).mono ?_; rintro e w2 ⟨r, rfl, ho, hb2⟩; have HTS := Lib.hid (ho.sl e2_len); obtain ⟨At, ct, rfl, hct⟩ := HTS.out.form; obtain ⟨bt, ot, rfl, hbt, _⟩ := HTS.out.raw (k := 0) hlen.1; have HB2 := Lib.hid (below_tr HB1.out hb2); clear ho hb2))
    · have HL := Lib.hid hlen
      go_loopw [9, 10, 11, 30] (fun va _ _ i wr => ∃ k : Nat, k + 1 ≤ ts.length ∧ i = .int .i64 k ∧ Ow e2 2 75 w2.heap.size wr va ((bendsF ts).take k) ∧ Below w2.heap.size w2 wr) (fun _ _ _ i _ => ts.length - (intOf i).toNat)
      case atStart => exact ⟨0, by omega, rfl, by simpa using Ow.nil _ _ _ _ _, Below.refl _ _⟩
      case round =>
        obtain ⟨k, hk, rfl, ho, hb⟩ := hrel
        have HO := Lib.hid ho
        have HB := Lib.hid hb
        clear ho
        by_cases hlt : k + 1 < ts.length
        · exfalso; omega
        · have hk' : k = ts.length - 1 := by omega
          subst hk'
          have hfin : (bendsF ts).take (ts.length - 1) = bendsF ts := List.take_of_length_le (by rw [bendsF_len]; omega)
          rw [hfin] at HO
          clear hb hfin
          go_wp2_with fail
          go_ret2
          exact ⟨_, (ret_list2 E.out (HO.out.less HB2.out.size)).1, (ret_list2 E.out (HO.out.less HB2.out.size)).2, below_tr HB2.out HB.out⟩
    · have HL := Lib.hid hlen
      go_loopw [9, 10, 11, 30] (fun va _ _ i wr => ∃ k : Nat, k + 1 ≤ ts.length ∧ i = .int .i64 k ∧ Ow e2 2 75 w2.heap.size wr va ((bendsF ts).take k) ∧ Below w2.heap.size w2 wr) (fun _ _ _ i _ => ts.length - (intOf i).toNat)
      case atStart => exact ⟨0, by omega, rfl, by simpa using Ow.nil _ _ _ _ _, Below.refl _ _⟩
      case round =>
        obtain ⟨k, hk, rfl, ho, hb⟩ := hrel
        have HO := Lib.hid ho
        have HB := Lib.hid hb
        clear ho
        by_cases hlt : k + 1 < ts.length
        · have hlt' : (k : Int) < ((ts.length - 1 : Nat) : Int) := by omega
          have hlt2 : (k : Int) < (ts.length : Int) := by omega
          obtain ⟨b0, o0, e0, _, ca1, ca2⟩ := (HTS.out.below hb).at2 (k := k) (by omega)
          injection e0 with e0
          injection e0 with e01 e02
          subst e01; subst e02
          obtain ⟨b0, o0, e0, _, cb1, cb2⟩ := (HTS.out.below hb).at2 (k := k + 1) (by omega)
          injection e0 with e0
          injection e0 with e01 e02
          subst e01; subst e02
          rw [show ot + (k + 1) * 2 = ot + 2 + k * 2 by omega] at cb1 cb2
          have hbw : bt < wr.heap.size := Nat.lt_of_lt_of_le hbt hb.size
          have htk := bendsF_take ts k hlt
          have hfa := HF.out ts[k] (List.getElem_mem _)
          have hfb := HF.out ts[k + 1] (List.getElem_mem _)
          have HBE := Lib.hid (fun w => bend_any ts[k] ts[k + 1] w hfa hfb)
          clear hfa hfb
          generalize bend ts[k] ts[k + 1] = be at *
          generalize ts[k] = ta at *
          generalize ts[k + 1] = tb at *
          obtain ⟨a1, a2⟩ := ta
          obtain ⟨b1, b2⟩ := tb
          simp only at *
          have HTK := Lib.hid htk
          have hacc : ((bendsF ts).take k).length ≤ 10 := by rw [List.length_take]; have := HL.out.2; omega
          have HK := Lib.hid (And.intro ca1 (And.intro ca2 (And.intro cb1 cb2)))
          generalize (bendsF ts).take k = acc at *
          clear htk
          go_wp2_with fail
          obtain ⟨W0, hW0⟩ : ∃ W0, W0 = wr.alloc (.cells #[.int .i64 b1, .int .i64 b2] 23) := ⟨_, rfl⟩
          rw [← hW0]
          have HB0 : Hid (Below wr.heap.size wr W0) := by rw [hW0]; exact below_alloc1 _ _
          have HX : Hid (∀ W, Below W0.drew.heap.size W0.drew W → (W.cell? ⟨bt, ot + k * 2, none⟩ = some (.int .i64 a1) ∧ W.cell? ⟨bt, ot + k * 2 + 1, none⟩ = some (.int .i64 a2)) ∧ (W.cell? ⟨wr.heap.size, 0, none⟩ = some (.int .i64 b1) ∧ W.cell? ⟨wr.heap.size, 1, none⟩ = some (.int .i64 b2))) := by
            intro W h
            rw [hW0] at h
            have hbl : bt < (wr.alloc (.cells #[.int .i64 b1, .int .i64 b2] 23)).drew.heap.size := by simp [World.drew]; omega
            have bx := fun j v hv => (At.new wr #[.int .i64 b1, .int .i64 b2] 23 j v hv).drew.below h
            exact ⟨⟨((h.cell (p := ⟨bt, ot + k * 2, none⟩) hbl).trans (World.cell?_alloc_lt wr _ ⟨bt, ot + k * 2, none⟩ hbw)).trans HK.out.1, ((h.cell (p := ⟨bt, ot + k * 2 + 1, none⟩) hbl).trans (World.cell?_alloc_lt wr _ ⟨bt, ot + k * 2 + 1, none⟩ hbw)).trans HK.out.2.1⟩, (bx 0 _ rfl).1, (bx 1 _ rfl).1⟩
          have HOW : Hid (∀ W, Below W0.drew.heap.size W0.drew W → Ow e2 2 75 w2.heap.size W u9 acc ∧ Below w2.heap.size w2 W) := by
            intro W h
            rw [hW0] at h
            exact ⟨((HO.out.alloc _).drew).below h, below_tr (below_al HB.out _) (Below.trans (Below.drew (Below.refl _ _)) h)⟩
          clear hW0 ca1 ca2 cb1 cb2 hb
          refine wp_region_mono 8 [35, 36, 37, 38, 39, 40, 41, 42] [[], [], [], [1, 2], [3], [], [4, 5], [6]] [fun v _ => v = u9, fun v _ => v = .slice (some ⟨bt, ot, none⟩) ts.length ct, fun v _ => v = .int .i64 k, fun v _ => v = .pointer (some ⟨bt, ot + k * 2, none⟩), fun v _ => v = .agg #[.int .i64 a1, .int .i64 a2], fun v _ => v = .agg #[.int .i64 b1, .int .i64 b2], fun v _ => v = .agg #[.int .i64 be.1, .int .i64 be.2], fun v w => Sl e2 2 w v [be]] (by kernel_rfl) (by kernel_rfl) ⟨st_eq _, st_eq _, st_eq _, st_eq _, st_eq _, st_eq _, st_eq _, st_sl _ _ _, trivial⟩ ?_ ?_
          · simp only [List.take_succ_cons, List.take_zero, steps, and_true]
            refine ⟨?_, ?_, ?_, ?_, ?_, ?_, ?_, ?_⟩
            · intro x W hB hN; simp only [needs, sAt, dAt] at hN; simp only [putX, setX, List.foldl_cons, List.foldl_nil]; refine ⟨?_⟩; go_simp; exact ⟨rfl, Below.refl _ _⟩
            · intro x W hB hN; simp only [needs, sAt, dAt] at hN; simp only [putX, setX, List.foldl_cons, List.foldl_nil]; refine ⟨?_⟩; go_simp; exact ⟨rfl, Below.refl _ _⟩
            · intro x W hB hN; simp only [needs, sAt, dAt] at hN; simp only [putX, setX, List.foldl_cons, List.foldl_nil]; refine ⟨?_⟩; go_simp; exact ⟨rfl, Below.refl _ _⟩
            · intro x W hB hN; simp only [needs, sAt, dAt] at hN; simp only [putX, setX, List.foldl_cons, List.foldl_nil]; refine ⟨?_⟩; go_simp; exact ⟨rfl, Below.refl _ _⟩
            · intro x W hB hN; simp only [needs, sAt, dAt] at hN; simp only [putX, setX, List.foldl_cons, List.foldl_nil]; obtain ⟨⟨c0, c1⟩, c2, c3⟩ := HX.out W hB; refine ⟨?_⟩; go_simp; exact ⟨rfl, Below.refl _ _⟩
            · intro x W hB hN; simp only [needs, sAt, dAt] at hN; simp only [putX, setX, List.foldl_cons, List.foldl_nil]; obtain ⟨⟨c0, c1⟩, c2, c3⟩ := HX.out W hB; refine ⟨?_⟩; go_simp; exact ⟨rfl, Below.refl _ _⟩
            · intro x W hB hN; simp only [needs, sAt, dAt] at hN; simp only [putX, setX, List.foldl_cons, List.foldl_nil]; refine ⟨?_⟩; go_simp; refine (HBE.out _).mono ?_; rintro e w' ⟨rfl, hb⟩; exact ⟨_, rfl, rfl, hb⟩
            · intro x W hB hN; simp only [needs, sAt, dAt] at hN; simp only [putX, setX, List.foldl_cons, List.foldl_nil]; refine ⟨?_⟩; go_simp; exact ⟨slp _ _ _, below_alloc1 _ _⟩
          · intro x W hB hA
            simp only [allSp] at hA
            have q0 := hA.1
            have q1 := hA.2.2.2.2.2.2.2.1
            obtain ⟨A1, c1, e1', _⟩ := q1.form
            rw [e1'] at q1
            obtain ⟨ho, hbW⟩ := HOW.out W hB
            clear hA
            simp only [putX, setX, List.foldl_cons, List.foldl_nil, List.drop_succ_cons, List.drop_zero, q0, e1', List.setIfInBounds_toArray, List.set_cons_succ, List.set_cons_zero]
            go_wp2_with (at_builtin; refine wpList_append_sl _ rfl _ _ 69 rfl w2.heap.size 75 i0 _ 2 16 Try.underlying69 hi hz0 hz1 hz2 rfl (by decide) e2_len e2_one _ acc rfl ho A1 1 c1 [be] rfl q1 (by simp; omega) (by decide) hbW.size ?_; intro v1 w4 ho4 hg4)
            have HO4 := Lib.hid ho4
            have HB4 := Lib.hid (ho.grown hg4 hbW (Nat.le_refl _))
            clear ho4 hg4 ho hbW
            go_roundw
            case rel => exact ⟨k + 1, by omega, by go_num, by rw [HTK.out]; exact HO4.out, HB4.out⟩
            case measure => simp [intOf]; omega
        · have hk' : k = ts.length - 1 := by omega
          subst hk'
          have hfin : (bendsF ts).take (ts.length - 1) = bendsF ts := List.take_of_length_le (by rw [bendsF_len]; omega)
          rw [hfin] at HO
          clear hb hfin
          go_wp2_with fail
          go_ret2
          exact ⟨_, (ret_list2 E.out (HO.out.less HB2.out.size)).1, (ret_list2 E.out (HO.out.less HB2.out.size)).2, below_tr HB2.out HB.out⟩
  · have E : Hid (bendsOf l cu = ([], shapeErr l cu)) := if_neg h1
    have h1' := ne1 h1
    generalize shapeErr l cu = pe at *
    obtain ⟨A, c, rfl, hcap⟩ := hs.form
    obtain ⟨A', c', rfl, hcap'⟩ := hu.form
    clear h1 hs hu HT
    go_enter Try.func42, Try.ntmps42
    go_wp2_with (go_at_call 103; refine HC.out.mono ?_; rintro e w1 ⟨rfl, hb1⟩)
    go_ret2
    exact ⟨_, (ret_list2 E.out (Ow.nil _ _ 75 w.heap.size w)).1, (ret_list2 E.out (Ow.nil _ _ 75 w.heap.size _)).2, below_tr (below_alloc1 _ _) hb1⟩
end Go.Proofs.Ytegkppphaglpgaa
