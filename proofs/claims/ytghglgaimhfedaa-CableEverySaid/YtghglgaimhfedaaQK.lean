/-
  Walks of chapter 1's bends of a line.
-/
import Derived.Test.YtghglgaimhfedaaQJ
import Derived.Test.YtghglgaimhfedaaQI
import Derived.Test.YtghglgaimhfedaaQH
namespace Go.Proofs.Ytghglgaimhfedaa
open Go.RowKit Go.Shelf
attribute [local go_sem] monoUpon_value monoUpon_skip monoUpon_enter

def bendsF : List (Int × Int) → List (Int × Int)
  | a :: b :: r => bend a b :: bendsF (b :: r)
  | _ => []
def bends (l : Ln) (c : List Int) : List (Int × Int) := bendsF (tensions l c)
def bendsOf (l : Ln) (c : List Int) : List (Int × Int) × Int := if shapeErr l c = 0 then (bends l c, 0) else ([], shapeErr l c)
theorem bendsF_len : ∀ ts : List (Int × Int), (bendsF ts).length = ts.length - 1
  | [] => rfl
  | [_] => rfl
  | _ :: b :: r => by simp only [bendsF, List.length_cons]; rw [bendsF_len (b :: r)]; simp
theorem bendsF_at : ∀ (ts : List (Int × Int)) (i : Nat) (h : i + 1 < ts.length), (bendsF ts)[i]? = some (bend ts[i] ts[i + 1])
  | _ :: _ :: _, 0, _ => rfl
  | _ :: b :: r, i + 1, h => by
    simp only [bendsF, List.getElem?_cons_succ, List.getElem_cons_succ]
    exact bendsF_at (b :: r) i (by simpa using h)
theorem bendsF_take (ts : List (Int × Int)) (i : Nat) (h : i + 1 < ts.length) : (bendsF ts).take (i + 1) = (bendsF ts).take i ++ [bend ts[i] ts[i + 1]] := by
  have hl : i < (bendsF ts).length := by rw [bendsF_len]; omega
  rw [List.take_succ_eq_append_getElem hl]
  congr 2
  have := bendsF_at ts i h
  rw [List.getElem?_eq_getElem hl] at this
  exact Option.some.inj this
theorem shape_ok {l : Ln} {c : List Int} (h : shapeErr l c = 0) : currentsErr l c = 0 ∧ slackErr l = 0 := by
  unfold shapeErr at h
  by_cases h1 : currentsErr l c = 0
  · rw [if_pos h1] at h; exact ⟨h1, h⟩
  · rw [if_neg h1] at h; exact absurd h h1
theorem tensions_fo {l : Ln} {c : List Int} (h : shapeErr l c = 0) : ∀ t ∈ tensions l c, Fo t := by
  obtain ⟨h1, h2⟩ := shape_ok h
  obtain ⟨h3, h4⟩ := currentsErr_ok h1
  have hb := cursErr_ok h4
  have hl := lineErr_ok h3
  intro t ht
  unfold tensions at ht
  obtain ⟨p, hp, rfl⟩ := List.mem_map.1 ht
  have hz := pulls_pos hb h2 p hp
  have hk := pulls_ok hl hb p hp
  exact ⟨⟨hk.l0, hk.l1⟩, ⟨hz, hk.z1⟩⟩
theorem tensions_len {l : Ln} {c : List Int} (h : shapeErr l c = 0) : 0 < (tensions l c).length ∧ (tensions l c).length ≤ 10 := by
  obtain ⟨h1, h2⟩ := shape_ok h
  obtain ⟨h3, h4⟩ := currentsErr_ok h1
  have hb := cursErr_ok h4
  have hl := lineErr_ok h3
  have : (tensions l c).length = l.ks.length := by
    unfold tensions pulls
    rw [List.length_map]
    exact pullsF_len _ _ _ _ _ hb.len
  rw [this]
  exact ⟨hl.n0, hl.n1⟩
theorem fracinfo : (Try.prog.info? 75).map (fun i => (i.zero, i.size, i.bytes)) = some (some (.agg #[.int .i64 0, .int .i64 0]), 2, 16) := by kernel_rfl
theorem ret_list2 {q : List (Int × Int) × Int} {l : List (Int × Int)} {a : Int} {r : Value} {e : TypeId} {base : Nat} {w : World} (h : q = (l, a)) (ho : Ow e2 2 e base w r l) :
    Ending.returned (.tuple #[r, .int .i64 a]) = .returned (.tuple #[r, .int .i64 q.2]) ∧ Ow e2 2 e base w r q.1 := by
  subst h; exact ⟨rfl, ho⟩
/-- A row of one pair that has just been laid. -/
theorem cells_pair (w : World) (p : Int × Int) (t : TypeId) : ∀ j u, (e2 p)[j]? = some u → (w.alloc (.cells #[.int .i64 p.1, .int .i64 p.2] t)).cell? ((⟨w.heap.size, 0, none⟩ : Addr).add j) = some u := cells_new w (e2 p) t
theorem slp (w : World) (p : Int × Int) (t : TypeId) : Sl e2 2 (w.alloc (.cells #[.int .i64 p.1, .int .i64 p.2] t)) (.slice (some ⟨w.heap.size, 0, none⟩) 1 1) [p] :=
  (Ow.lit (enc := e2) (s := 2) (base := w.heap.size) w #[.int .i64 p.1, .int .i64 p.2] [p] (Nat.le_refl _) (by simp) rfl (by simp [e2])).sl e2_len
set_option maxRecDepth 100000 in
set_option maxHeartbeats 1000000 in
theorem BendsOf_any (v u : Value) (l : Ln) (cu : List Int) (w : World) (hs : Sl e3 3 w v l.ks) (hu : Sl e1 1 w u cu) (hbig : l.ks.length ≤ 1000) (hbig' : cu.length ≤ 1000) :
    Calls Try.prog 42 #[.agg #[.int .i64 l.x, .int .i64 l.z, v], u] w fun e w' => ∃ r, e = .returned (.tuple #[r, .int .i64 (bendsOf l cu).2]) ∧ Ow e2 2 75 w.heap.size w' r (bendsOf l cu).1 ∧ Below w.heap.size w w' := by
  obtain ⟨i0, hi, hz0, hz1, hz2⟩ := info_parts fracinfo
  have HC := Lib.hid (shapeError_any v u l cu _ (hs.alloc (.cells #[.int .i64 l.x, .int .i64 l.z, v] 26)) (hu.alloc (.cells #[.int .i64 l.x, .int .i64 l.z, v] 26)) hbig hbig')
  have HT := Lib.hid (fun w' (hw : Below w.heap.size w w') => TensionsOf_any v u l cu w' (hs.below hw) (hu.below hw) hbig hbig')
  by_cases h1 : shapeErr l cu = 0
  · have E : Hid (bendsOf l cu = (bendsF (tensions l cu), 0)) := if_pos h1
    have HF := Lib.hid (tensions_fo h1)
    have hlen := tensions_len h1
    have hte : tensionsOf l cu = (tensions l cu, 0) := if_pos (shape_ok h1).1
    rw [hte] at HT
    rw [h1] at HC
    clear h1 hte
    generalize tensions l cu = ts at *
    obtain ⟨A, c, rfl, hcap⟩ := hs.form
    obtain ⟨A', c', rfl, hcap'⟩ := hu.form
    clear hs hu
    simp only at HT
    have hl1 : (ts.length : Int) - 1 = ((ts.length - 1 : Nat) : Int) := by omega
    go_enter Try.func42, Try.ntmps42
    go_wp2_with (first
      | (go_at_call 104; refine HC.out.mono ?_; rintro e w1 ⟨rfl, hb1⟩; obtain ⟨q0, _⟩ := (At.new w #[.int .i64 l.x, .int .i64 l.z, .slice A l.ks.length c] 26 0 _ rfl).below hb1; obtain ⟨q1, _⟩ := (At.new w #[.int .i64 l.x, .int .i64 l.z, .slice A l.ks.length c] 26 1 _ rfl).below hb1; obtain ⟨q2, _⟩ := (At.new w #[.int .i64 l.x, .int .i64 l.z, .slice A l.ks.length c] 26 2 _ rfl).below hb1; have HB1 := Lib.hid (below_tr (below_alloc1 _ _) hb1); clear hb1)
      | (go_at_call 28; refine (HT.out _ HB1.out).mono ?_; rintro e w2 ⟨r, rfl, ho, hb2⟩; have HTS := Lib.hid (ho.sl e2_len); obtain ⟨At, ct, rfl, hct⟩ := HTS.out.form; obtain ⟨bt, ot, rfl, hbt, _⟩ := HTS.out.raw (k := 0) hlen.1; have HB2 := Lib.hid (below_tr HB1.out hb2); clear ho hb2))
    · have HL := Lib.hid hlen
      go_loopw [9, 10, 11, 30] (fun va _ _ i wr => ∃ k : Nat, k + 1 ≤ ts.length ∧ i = .int .i64 k ∧ Ow e2 2 75 w2.heap.size wr va ((bendsF ts).take k) ∧ Below w2.heap.size w2 wr) (fun _ _ _ i _ => ts.length - (intOf i).toNat)
      case atStart => exact ⟨0, by omega, rfl, by simpa using Ow.nil _ _ _ _ _, Below.refl _ _⟩
      case round =>
        obtain ⟨k, hk, rfl, ho, hb⟩ := hrel
        have HO := Lib.hid ho
        have HB := Lib.hid hb
        clear ho
        by_cases hlt : k + 1 < ts.length
        · exfalso; omega
        · have hk' : k = ts.length - 1 := by omega
          subst hk'
          have hfin : (bendsF ts).take (ts.length - 1) = bendsF ts := List.take_of_length_le (by rw [bendsF_len]; omega)
          rw [hfin] at HO
          clear hb hfin
          go_wp2_with fail
          go_ret2
          exact ⟨_, (ret_list2 E.out (HO.out.less HB2.out.size)).1, (ret_list2 E.out (HO.out.less HB2.out.size)).2, below_tr HB2.out HB.out⟩
    · have HL := Lib.hid hlen
      go_loopw [9, 10, 11, 30] (fun va _ _ i wr => ∃ k : Nat, k + 1 ≤ ts.length ∧ i = .int .i64 k ∧ Ow e2 2 75 w2.heap.size wr va ((bendsF ts).take k) ∧ Below w2.heap.size w2 wr) (fun _ _ _ i _ => ts.length - (intOf i).toNat)
      case atStart => exact ⟨0, by omega, rfl, by simpa using Ow.nil _ _ _ _ _, Below.refl _ _⟩
      case round =>
        obtain ⟨k, hk, rfl, ho, hb⟩ := hrel
        have HO := Lib.hid ho
        have HB := Lib.hid hb
        clear ho
        by_cases hlt : k + 1 < ts.length
        · have hlt' : (k : Int) < ((ts.length - 1 : Nat) : Int) := by omega
          have hlt2 : (k : Int) < (ts.length : Int) := by omega
          obtain ⟨b0, o0, e0, _, ca1, ca2⟩ := (HTS.out.below hb).at2 (k := k) (by omega)
          injection e0 with e0
          injection e0 with e01 e02
          subst e01; subst e02
          obtain ⟨b0, o0, e0, _, cb1, cb2⟩ := (HTS.out.below hb).at2 (k := k + 1) (by omega)
          injection e0 with e0
          injection e0 with e01 e02
          subst e01; subst e02
          rw [show ot + (k + 1) * 2 = ot + 2 + k * 2 by omega] at cb1 cb2
          have hbw : bt < wr.heap.size := Nat.lt_of_lt_of_le hbt hb.size
          have htk := bendsF_take ts k hlt
          have hfa := HF.out ts[k] (List.getElem_mem _)
          have hfb := HF.out ts[k + 1] (List.getElem_mem _)
          have HBE := Lib.hid (fun w => bend_any ts[k] ts[k + 1] w hfa hfb)
          clear hfa hfb
          generalize bend ts[k] ts[k + 1] = be at *
          generalize ts[k] = ta at *
          generalize ts[k + 1] = tb at *
          obtain ⟨a1, a2⟩ := ta
          obtain ⟨b1, b2⟩ := tb
          simp only at *
          have HTK := Lib.hid htk
          have hacc : ((bendsF ts).take k).length ≤ 10 := by rw [List.length_take]; have := HL.out.2; omega
          have HK := Lib.hid (And.intro ca1 (And.intro ca2 (And.intro cb1 cb2)))
          generalize (bendsF ts).take k = acc at *
          clear htk
          go_wp2_with fail
          obtain ⟨W0, hW0⟩ : ∃ W0, W0 = wr.alloc (.cells #[.int .i64 b1, .int .i64 b2] 23) := ⟨_, rfl⟩
          rw [← hW0]
          have HB0 : Hid (Below wr.heap.size wr W0) := by rw [hW0]; exact below_alloc1 _ _
          have HX : Hid (∀ W, Below W0.drew.heap.size W0.drew W → (W.cell? ⟨bt, ot + k * 2, none⟩ = some (.int .i64 a1) ∧ W.cell? ⟨bt, ot + k * 2 + 1, none⟩ = some (.int .i64 a2)) ∧ (W.cell? ⟨wr.heap.size, 0, none⟩ = some (.int .i64 b1) ∧ W.cell? ⟨wr.heap.size, 1, none⟩ = some (.int .i64 b2))) := by
            intro W h
            rw [hW0] at h
            have hbl : bt < (wr.alloc (.cells #[.int .i64 b1, .int .i64 b2] 23)).drew.heap.size := by simp [World.drew]; omega
            have bx := fun j v hv => (At.new wr #[.int .i64 b1, .int .i64 b2] 23 j v hv).drew.below h
            exact ⟨⟨((h.cell (p := ⟨bt, ot + k * 2, none⟩) hbl).trans (World.cell?_alloc_lt wr _ ⟨bt, ot + k * 2, none⟩ hbw)).trans HK.out.1, ((h.cell (p := ⟨bt, ot + k * 2 + 1, none⟩) hbl).trans (World.cell?_alloc_lt wr _ ⟨bt, ot + k * 2 + 1, none⟩ hbw)).trans HK.out.2.1⟩, (bx 0 _ rfl).1, (bx 1 _ rfl).1⟩
          have HOW : Hid (∀ W, Below W0.drew.heap.size W0.drew W → Ow e2 2 75 w2.heap.size W u9 acc ∧ Below w2.heap.size w2 W) := by
            intro W h
            rw [hW0] at h
            exact ⟨((HO.out.alloc _).drew).below h, below_tr (below_al HB.out _) (Below.trans (Below.drew (Below.refl _ _)) h)⟩
          clear hW0 ca1 ca2 cb1 cb2 hb
          refine wp_region_mono 8 [35, 36, 37, 38, 39, 40, 41, 42] [[], [], [], [1, 2], [3], [], [4, 5], [6]] [fun v _ => v = u9, fun v _ => v = .slice (some ⟨bt, ot, none⟩) ts.length ct, fun v _ => v = .int .i64 k, fun v _ => v = .pointer (some ⟨bt, ot + k * 2, none⟩), fun v _ => v = .agg #[.int .i64 a1, .int .i64 a2], fun v _ => v = .agg #[.int .i64 b1, .int .i64 b2], fun v _ => v = .agg #[.int .i64 be.1, .int .i64 be.2], fun v w => Sl e2 2 w v [be]] (by kernel_rfl) (by kernel_rfl) ⟨st_eq _, st_eq _, st_eq _, st_eq _, st_eq _, st_eq _, st_eq _, st_sl _ _ _, trivial⟩ ?_ ?_
          · simp only [List.take_succ_cons, List.take_zero, steps, and_true]
            refine ⟨?_, ?_, ?_, ?_, ?_, ?_, ?_, ?_⟩
            · intro x W hB _; simp only [putX, setX, List.foldl_cons, List.foldl_nil]; refine ⟨?_⟩; go_simp; exact ⟨rfl, Below.refl _ _⟩
            · intro x W hB _; simp only [putX, setX, List.foldl_cons, List.foldl_nil]; refine ⟨?_⟩; go_simp; exact ⟨rfl, Below.refl _ _⟩
            · intro x W hB _; simp only [putX, setX, List.foldl_cons, List.foldl_nil]; refine ⟨?_⟩; go_simp; exact ⟨rfl, Below.refl _ _⟩
            · intro x W hB hN; simp only [needs, sAt, dAt] at hN; simp only [putX, setX, List.foldl_cons, List.foldl_nil]; refine ⟨?_⟩; go_simp; exact ⟨rfl, Below.refl _ _⟩
            · intro x W hB hN; simp only [needs, sAt, dAt] at hN; simp only [putX, setX, List.foldl_cons, List.foldl_nil]; obtain ⟨⟨c0, c1⟩, c2, c3⟩ := HX.out W hB; refine ⟨?_⟩; go_simp; exact ⟨rfl, Below.refl _ _⟩
            · intro x W hB _; simp only [putX, setX, List.foldl_cons, List.foldl_nil]; obtain ⟨⟨c0, c1⟩, c2, c3⟩ := HX.out W hB; refine ⟨?_⟩; go_simp; exact ⟨rfl, Below.refl _ _⟩
            · intro x W hB hN; simp only [needs, sAt, dAt] at hN; simp only [putX, setX, List.foldl_cons, List.foldl_nil]; refine ⟨?_⟩; go_simp; refine (HBE.out _).mono ?_; rintro e w' ⟨rfl, hb⟩; exact ⟨_, rfl, rfl, hb⟩
            · intro x W hB hN; simp only [needs, sAt, dAt] at hN; simp only [putX, setX, List.foldl_cons, List.foldl_nil]; refine ⟨?_⟩; go_simp; exact ⟨slp _ _ _, below_alloc1 _ _⟩
          · intro x W hB hA
            simp only [allSp] at hA
            have q0 := hA.1
            have q1 := hA.2.2.2.2.2.2.2.1
            obtain ⟨A1, c1, e1', _⟩ := q1.form
            rw [e1'] at q1
            obtain ⟨ho, hbW⟩ := HOW.out W hB
            clear hA
            simp only [putX, setX, List.foldl_cons, List.foldl_nil, List.drop_succ_cons, List.drop_zero, q0, e1', List.setIfInBounds_toArray, List.set_cons_succ, List.set_cons_zero]
            go_wp2_with (at_builtin; refine wpList_append_sl _ rfl _ _ 69 rfl w2.heap.size 75 i0 _ 2 16 Try.underlying69 hi hz0 hz1 hz2 rfl (by decide) e2_len e2_one _ acc rfl ho A1 1 c1 [be] rfl q1 (by simp; omega) (by decide) hbW.size ?_; intro v1 w4 ho4 hg4)
            have HO4 := Lib.hid ho4
            have HB4 := Lib.hid (ho.grown hg4 hbW (Nat.le_refl _))
            clear ho4 hg4 ho hbW
            go_roundw
            case rel => exact ⟨k + 1, by omega, by go_num, by rw [HTK.out]; exact HO4.out, HB4.out⟩
            case measure => simp [intOf]; omega
        · have hk' : k = ts.length - 1 := by omega
          subst hk'
          have hfin : (bendsF ts).take (ts.length - 1) = bendsF ts := List.take_of_length_le (by rw [bendsF_len]; omega)
          rw [hfin] at HO
          clear hb hfin
          go_wp2_with fail
          go_ret2
          exact ⟨_, (ret_list2 E.out (HO.out.less HB2.out.size)).1, (ret_list2 E.out (HO.out.less HB2.out.size)).2, below_tr HB2.out HB.out⟩
  · have E : Hid (bendsOf l cu = ([], shapeErr l cu)) := if_neg h1
    have h1' := ne1 h1
    generalize shapeErr l cu = pe at *
    obtain ⟨A, c, rfl, hcap⟩ := hs.form
    obtain ⟨A', c', rfl, hcap'⟩ := hu.form
    clear h1 hs hu HT
    go_enter Try.func42, Try.ntmps42
    go_wp2_with (go_at_call 104; refine HC.out.mono ?_; rintro e w1 ⟨rfl, hb1⟩)
    go_ret2
    exact ⟨_, (ret_list2 E.out (Ow.nil _ _ 75 w.heap.size w)).1, (ret_list2 E.out (Ow.nil _ _ 75 w.heap.size _)).2, below_tr (below_alloc1 _ _) hb1⟩
end Go.Proofs.Ytghglgaimhfedaa

namespace Go.Proofs.Ytghglgaimhfedaa
open Go.RowKit Go.Shelf

theorem low_bd (n d M : Int) (hn : 0 ≤ n ∧ n ≤ M) (hd : 0 < d ∧ d ≤ M) : (0 ≤ (low n d).1 ∧ (low n d).1 ≤ M) ∧ (0 ≤ (low n d).2 ∧ (low n d).2 ≤ M) := by
  have hg : (0 : Int) < (Int.gcd n d : Int) := by have := Int.gcd_pos_of_ne_zero_right n (show d ≠ 0 by omega); omega
  unfold low
  exact ⟨⟨Int.ediv_nonneg hn.1 (by omega), Int.le_trans (Int.ediv_le_self _ hn.1) hn.2⟩, Int.ediv_nonneg (by omega) (by omega), Int.le_trans (Int.ediv_le_self _ (by omega)) hd.2⟩
theorem bend_bd {a b : Int × Int} (ha : Fo a) (hb : Fo b) : (0 ≤ (bend a b).1 ∧ (bend a b).1 ≤ 4000000000000000000) ∧ (0 ≤ (bend a b).2 ∧ (bend a b).2 ≤ 4000000000000000000) := by
  have m1 := mul_bd a.1 b.2 20000 20000 ha.x ⟨by have := hb.z; omega, hb.z.2⟩
  have m2 := mul_bd b.1 a.2 20000 20000 hb.x ⟨by have := ha.z; omega, ha.z.2⟩
  have m3 := mul_bd (across a b) (across a b) 800000000 800000000 (by unfold across; omega) (by unfold across; omega)
  have n3 : 0 ≤ across a b * across a b := by rcases Int.le_total 0 (across a b) with h | h; exact Int.mul_nonneg h h; exact Int.mul_nonneg_of_nonpos_of_nonpos h h
  have sa := sq_pos ha
  have sb := sq_pos hb
  have m4 : 0 < sq a * sq b := Int.mul_pos sa.1 sb.1
  have m5 := mul_bd (sq a) (sq b) 800000000 800000000 (by omega) (by omega)
  exact low_bd _ _ _ ⟨n3, by omega⟩ ⟨m4, by omega⟩
theorem bendsF_bd : ∀ {ts : List (Int × Int)}, (∀ t ∈ ts, Fo t) → ∀ q ∈ bendsF ts, (0 ≤ q.1 ∧ q.1 ≤ 4000000000000000000) ∧ (0 ≤ q.2 ∧ q.2 ≤ 4000000000000000000)
  | [], _, q, h => by simp [bendsF] at h
  | [_], _, q, h => by simp [bendsF] at h
  | a :: b :: r, hf, q, h => by
    simp only [bendsF, List.mem_cons] at h
    rcases h with rfl | h
    · exact bend_bd (hf a (by simp)) (hf b (by simp))
    · exact bendsF_bd (ts := b :: r) (fun t ht => hf t (List.mem_cons_of_mem _ ht)) q h
/-- The first of the sharpest among the first k, and one more: by how the loop goes. -/
def sharpK (bs : List (Int × Int)) (k : Nat) : Nat := (List.range k).foldl (fun m i => if gtF (bs.getD i (0, 0)) (bs.getD m (0, 0)) = true then i else m) 0
theorem sharpK_succ (bs : List (Int × Int)) (k : Nat) : sharpK bs (k + 1) = if gtF (bs.getD k (0, 0)) (bs.getD (sharpK bs k) (0, 0)) = true then k else sharpK bs k := by
  unfold sharpK
  rw [List.range_succ, List.foldl_append]
  rfl
def sharpestIn (l : Ln) (c : List Int) : Int × (Int × Int) × Int :=
  if shapeErr l c = 0 then (if (bends l c).length = 0 then (0, (0, 0), 12) else ((sharpK (bends l c) (bends l c).length : Int), (bends l c).getD (sharpK (bends l c) (bends l c).length) (0, 0), 0)) else (0, (0, 0), shapeErr l c)
theorem ret_three {q : Int × (Int × Int) × Int} {a b c d : Int} (h : q = (a, (b, c), d)) : Ending.returned (.tuple #[.int .i64 a, .agg #[.int .i64 b, .int .i64 c], .int .i64 d]) = .returned (.tuple #[.int .i64 q.1, .agg #[.int .i64 q.2.1.1, .int .i64 q.2.1.2], .int .i64 q.2.2]) := by subst h; rfl
set_option maxRecDepth 100000 in
set_option maxHeartbeats 1000000 in
theorem SharpestIn_any (v u : Value) (l : Ln) (cu : List Int) (w : World) (hs : Sl e3 3 w v l.ks) (hu : Sl e1 1 w u cu) (hbig : l.ks.length ≤ 1000) (hbig' : cu.length ≤ 1000) :
    Calls Try.prog 45 #[.agg #[.int .i64 l.x, .int .i64 l.z, v], u] w fun e w' => e = .returned (.tuple #[.int .i64 (sharpestIn l cu).1, .agg #[.int .i64 (sharpestIn l cu).2.1.1, .int .i64 (sharpestIn l cu).2.1.2], .int .i64 (sharpestIn l cu).2.2]) ∧ Below w.heap.size w w' := by
  have HT := Lib.hid (fun w' (hw : Below w.heap.size w w') => BendsOf_any v u l cu w' (hs.below hw) (hu.below hw) hbig hbig')
  obtain ⟨A, c, rfl, hcap⟩ := hs.form
  obtain ⟨A', c', rfl, hcap'⟩ := hu.form
  have HX := Lib.hid (box2 w #[.int .i64 l.x, .int .i64 l.z, .slice A l.ks.length c] #[.int .i64 0, .int .i64 0] 26 75)
  have HBX : Hid (Below w.heap.size w ((w.alloc (.cells #[.int .i64 l.x, .int .i64 l.z, .slice A l.ks.length c] 26)).alloc (.cells #[.int .i64 0, .int .i64 0] 75))) := below_al (below_alloc1 _ _) _
  clear hs hu
  by_cases h1 : shapeErr l cu = 0
  · have hbd := bendsF_bd (tensions_fo h1)
    have hlen := tensions_len h1
    have hbl : (bends l cu).length ≤ 10 := by unfold bends; rw [bendsF_len]; omega
    have hbe : bendsOf l cu = (bends l cu, 0) := if_pos h1
    rw [hbe] at HT
    have E0 : sharpestIn l cu = if (bends l cu).length = 0 then (0, (0, 0), 12) else ((sharpK (bends l cu) (bends l cu).length : Int), (bends l cu).getD (sharpK (bends l cu) (bends l cu).length) (0, 0), 0) := if_pos h1
    have HBD : Hid (∀ q ∈ bends l cu, (0 ≤ q.1 ∧ q.1 ≤ 4000000000000000000) ∧ (0 ≤ q.2 ∧ q.2 ≤ 4000000000000000000)) := hbd
    clear h1 hbe hbd hlen
    generalize bends l cu = bs at *
    simp only at HT
    by_cases h0 : bs.length = 0
    · rw [if_pos h0] at E0
      have E := Lib.hid E0
      have h0' : ((bs.length : Int) == 0) = true := eq0 (by omega)
      clear E0 h0
      go_enter Try.func45, Try.ntmps45
      go_wp2_with (go_at_call 42; refine (HT.out _ HBX.out).mono ?_; rintro e w2 ⟨r, rfl, ho, hb2⟩; obtain ⟨Ab, ct, rfl, hct⟩ := (ho.sl e2_len).form; have R0 := (HX.out.2 0 _ rfl).below hb2; have R1 := (HX.out.2 1 _ rfl).below hb2; have HR2 := Lib.hid (And.intro R0 R1); have HB2 := Lib.hid (below_tr HBX.out hb2); obtain ⟨r0, f0⟩ := R0; obtain ⟨r1, f1⟩ := R1; clear hb2 ho)
      obtain ⟨W5, hW5⟩ : ∃ W5, W5 = (w2.setCell ⟨w.heap.size + 1, 0, none⟩ (.int .i64 0)).setCell ⟨w.heap.size + 1, 1, none⟩ (.int .i64 0) := ⟨_, rfl⟩
      rw [← hW5]
      obtain ⟨s0, _⟩ : At W5 ⟨w.heap.size + 1, 0, none⟩ (.int .i64 0) := by rw [hW5]; exact (HR2.out.1.set).other (by simp)
      obtain ⟨s1, _⟩ : At W5 ⟨w.heap.size + 1, 1, none⟩ (.int .i64 0) := by rw [hW5]; exact (HR2.out.2.other (by simp)).set
      have HB5 : Below w.heap.size w W5 := by rw [hW5]; exact below_set (below_set HB2.out (by simp) _) (by simp) _
      clear hW5
      (try simp only [Exit.inBlock, Exit.then])
      refine bodyPost_ret (v := .tuple #[.int .i64 0, .agg #[.int .i64 0, .int .i64 0], .int .i64 12]) ?_ rfl ⟨ret_three E.out, HB5⟩
      simp [results, Try.results45, go_sem, s0, s1]
    · rw [if_neg h0] at E0
      have E := Lib.hid E0
      have h0' : ((bs.length : Int) == 0) = false := eq1 (by omega)
      clear E0
      go_enter Try.func45, Try.ntmps45
      go_wp2_with (go_at_call 42; refine (HT.out _ HBX.out).mono ?_; rintro e w2 ⟨r, rfl, ho, hb2⟩; have HSB := Lib.hid (ho.sl e2_len); obtain ⟨Ab, ct, rfl, hct⟩ := HSB.out.form; have R0 := (HX.out.2 0 _ rfl).below hb2; have R1 := (HX.out.2 1 _ rfl).below hb2; have HR2 := Lib.hid (And.intro R0 R1); have HB2 := Lib.hid (below_tr HBX.out hb2); clear R0 R1 hb2 ho)
      go_loopw [9, 10, 11, 28] (fun sh _ _ i wr => ∃ k : Nat, k ≤ bs.length ∧ i = .int .i64 k ∧ sh = .int .i64 (sharpK bs k) ∧ sharpK bs k < bs.length ∧ Below w2.heap.size w2 wr) (fun _ _ _ i _ => bs.length - (intOf i).toNat)
      case atStart => exact ⟨0, Nat.zero_le _, rfl, rfl, by show 0 < _; omega, Below.refl _ _⟩
      case round =>
        obtain ⟨k, hk, rfl, rfl, hm, hb⟩ := hrel
        have HB := Lib.hid hb
        by_cases hlt : k < bs.length
        · obtain ⟨b0, o0, rfl, hbl', ca1, ca2⟩ := (HSB.out.below hb).at2 (k := k) hlt
          obtain ⟨b1, o1, e1', _, cb1, cb2⟩ := (HSB.out.below hb).at2 (k := sharpK bs k) hm
          injection e1' with e1'
          injection e1' with e11 e12
          subst e11; subst e12
          have hsc := sharpK_succ bs k
          rw [getD_eq _ _ _ hlt, getD_eq _ _ _ hm] at hsc
          have hq1 := HBD.out bs[k] (List.getElem_mem _)
          have hq2 := HBD.out bs[sharpK bs k] (List.getElem_mem _)
          have HG := Lib.hid (fun w => greater_any bs[k] bs[sharpK bs k] w hq1.1 hq1.2 hq2.1 hq2.2)
          have HSC := Lib.hid hsc
          have hmz : (sharpK bs k : Int) < (bs.length : Int) := by omega
          have hm0 : (0 : Int) ≤ (sharpK bs k : Int) := by omega
          clear hsc hq1 hq2 hb
          generalize bs[k] = qa at *
          generalize bs[sharpK bs k] = qb at *
          obtain ⟨a1, a2⟩ := qa
          obtain ⟨b1, b2⟩ := qb
          simp only at *
          generalize hmm : sharpK bs k = m at *
          cases hg : gtF (a1, a2) (b1, b2)
          · rw [hg] at HG HSC
            have HMM := Lib.hid hmm
            clear hmm hg
            go_wp2_with fail
            obtain ⟨W0, hW0⟩ : ∃ W0, W0 = wr.alloc (.cells #[.int .i64 a1, .int .i64 a2] 75) := ⟨_, rfl⟩
            rw [← hW0]
            have n1 : W0.cell? ⟨wr.heap.size, 0, none⟩ = some (.int .i64 a1) := by rw [hW0]; exact (At.new wr #[.int .i64 a1, .int .i64 a2] 75 0 _ rfl).1
            have n2 : W0.cell? ⟨wr.heap.size, 1, none⟩ = some (.int .i64 a2) := by rw [hW0]; exact (At.new wr #[.int .i64 a1, .int .i64 a2] 75 1 _ rfl).1
            have n3 : W0.cell? ⟨b0, o0 + m * 2, none⟩ = some (.int .i64 b1) := by rw [hW0]; exact (World.cell?_alloc_lt wr _ ⟨b0, o0 + m * 2, none⟩ hbl').trans cb1
            have n4 : W0.cell? ⟨b0, o0 + m * 2 + 1, none⟩ = some (.int .i64 b2) := by rw [hW0]; exact (World.cell?_alloc_lt wr _ ⟨b0, o0 + m * 2 + 1, none⟩ hbl').trans cb2
            have HB0 : Hid (Below w2.heap.size w2 W0) := by rw [hW0]; exact below_al HB.out _
            clear hW0
            go_still_tail 5, (by kernel_rfl)
            go_wp2_with (go_at_call 110; refine (HG.out _).mono ?_; rintro e w3 ⟨rfl, hb3⟩)
            go_roundw
            case rel => exact ⟨k + 1, by omega, by go_num, by rw [HSC.out]; rfl, by rw [HSC.out]; exact hm, below_tr (Below.drew HB0.out) hb3⟩
            case measure => simp [intOf]; omega
          · rw [hg] at HG HSC
            have HMM := Lib.hid hmm
            clear hmm hg
            go_wp2_with fail
            obtain ⟨W0, hW0⟩ : ∃ W0, W0 = wr.alloc (.cells #[.int .i64 a1, .int .i64 a2] 75) := ⟨_, rfl⟩
            rw [← hW0]
            have n1 : W0.cell? ⟨wr.heap.size, 0, none⟩ = some (.int .i64 a1) := by rw [hW0]; exact (At.new wr #[.int .i64 a1, .int .i64 a2] 75 0 _ rfl).1
            have n2 : W0.cell? ⟨wr.heap.size, 1, none⟩ = some (.int .i64 a2) := by rw [hW0]; exact (At.new wr #[.int .i64 a1, .int .i64 a2] 75 1 _ rfl).1
            have n3 : W0.cell? ⟨b0, o0 + m * 2, none⟩ = some (.int .i64 b1) := by rw [hW0]; exact (World.cell?_alloc_lt wr _ ⟨b0, o0 + m * 2, none⟩ hbl').trans cb1
            have n4 : W0.cell? ⟨b0, o0 + m * 2 + 1, none⟩ = some (.int .i64 b2) := by rw [hW0]; exact (World.cell?_alloc_lt wr _ ⟨b0, o0 + m * 2 + 1, none⟩ hbl').trans cb2
            have HB0 : Hid (Below w2.heap.size w2 W0) := by rw [hW0]; exact below_al HB.out _
            clear hW0
            go_still_tail 5, (by kernel_rfl)
            go_wp2_with (go_at_call 110; refine (HG.out _).mono ?_; rintro e w3 ⟨rfl, hb3⟩)
            go_roundw
            case rel => exact ⟨k + 1, by omega, by go_num, by rw [HSC.out]; rfl, by rw [HSC.out]; exact hlt, below_tr (Below.drew HB0.out) hb3⟩
            case measure => simp [intOf]; omega
        · obtain rfl : k = bs.length := by omega
          obtain ⟨b0, o0, rfl, hbl', ca1, ca2⟩ := (HSB.out.below hb).at2 hm
          have hge := getD_eq bs _ (0, 0) hm
          have hmz : (sharpK bs bs.length : Int) < (bs.length : Int) := by omega
          have hm0 : (0 : Int) ≤ (sharpK bs bs.length : Int) := by omega
          generalize bs[sharpK bs bs.length] = q at *
          rw [hge] at E
          generalize sharpK bs bs.length = m at *
          obtain ⟨q1, q2⟩ := q
          have R0 := HR2.out.1.below HB.out
          have R1 := HR2.out.2.below HB.out
          have HR3 := Lib.hid (And.intro R0 R1)
          obtain ⟨r0, f0⟩ := R0
          obtain ⟨r1, f1⟩ := R1
          simp only at *
          clear hb hge
          go_wp2_with fail
          go_still_tail 6, (by kernel_rfl)
          go_wp2_with fail
          obtain ⟨W5, hW5⟩ : ∃ W5, W5 = ((wr.setCell ⟨w.heap.size + 1, 0, none⟩ (.int .i64 q1)).setCell ⟨w.heap.size + 1, 1, none⟩ (.int .i64 q2)).drew := ⟨_, rfl⟩
          rw [← hW5]
          obtain ⟨s0, _⟩ : At W5 ⟨w.heap.size + 1, 0, none⟩ (.int .i64 q1) := by rw [hW5]; exact ((HR3.out.1.set).other (by simp)).drew
          obtain ⟨s1, _⟩ : At W5 ⟨w.heap.size + 1, 1, none⟩ (.int .i64 q2) := by rw [hW5]; exact ((HR3.out.2.other (by simp)).set).drew
          have HB5 : Below w.heap.size w W5 := by rw [hW5]; exact (below_set (below_set (below_tr HB2.out HB.out) (by simp) _) (by simp) _).drew
          clear hW5
          (try simp only [Exit.inBlock, Exit.then])
          refine bodyPost_ret (v := .tuple #[.int .i64 m, .agg #[.int .i64 q1, .int .i64 q2], .int .i64 0]) ?_ rfl ⟨ret_three E.out, HB5⟩
          simp [results, Try.results45, go_sem, s0, s1]
  · have E : Hid (sharpestIn l cu = (0, (0, 0), shapeErr l cu)) := if_neg h1
    have hbe : bendsOf l cu = ([], shapeErr l cu) := if_neg h1
    rw [hbe] at HT
    have h1' := ne1 h1
    generalize shapeErr l cu = pe at *
    clear h1 hbe
    simp only at HT
    go_enter Try.func45, Try.ntmps45
    go_wp2_with (go_at_call 42; refine (HT.out _ HBX.out).mono ?_; rintro e w2 ⟨r, rfl, ho, hb2⟩; have R0 := (HX.out.2 0 _ rfl).below hb2; have R1 := (HX.out.2 1 _ rfl).below hb2; have HR2 := Lib.hid (And.intro R0 R1); have HB2 := Lib.hid (below_tr HBX.out hb2); obtain ⟨r0, f0⟩ := R0; obtain ⟨r1, f1⟩ := R1; clear hb2 ho)
    obtain ⟨W5, hW5⟩ : ∃ W5, W5 = (w2.setCell ⟨w.heap.size + 1, 0, none⟩ (.int .i64 0)).setCell ⟨w.heap.size + 1, 1, none⟩ (.int .i64 0) := ⟨_, rfl⟩
    rw [← hW5]
    obtain ⟨s0, _⟩ : At W5 ⟨w.heap.size + 1, 0, none⟩ (.int .i64 0) := by rw [hW5]; exact (HR2.out.1.set).other (by simp)
    obtain ⟨s1, _⟩ : At W5 ⟨w.heap.size + 1, 1, none⟩ (.int .i64 0) := by rw [hW5]; exact (HR2.out.2.other (by simp)).set
    have HB5 : Below w.heap.size w W5 := by rw [hW5]; exact below_set (below_set HB2.out (by simp) _) (by simp) _
    clear hW5
    (try simp only [Exit.inBlock, Exit.then])
    refine bodyPost_ret (v := .tuple #[.int .i64 0, .agg #[.int .i64 0, .int .i64 0], .int .i64 pe]) ?_ rfl ⟨ret_three E.out, HB5⟩
    simp [results, Try.results45, go_sem, s0, s1]
end Go.Proofs.Ytghglgaimhfedaa

namespace Go.Proofs.Ytghglgaimhfedaa
open Go.RowKit Go.Shelf

def exLine : Ln := ⟨0, 100, [(10, 20, 3), (10, -20, 5), (5, 0, 0)]⟩
def exCur : List Int := [4, -2, 7]
def exBox : List (Int × Int) := [(2, 4), (-2, 0), (0, 9)]
theorem Line_any (w : World) : Calls Try.prog 84 #[] w fun e w' => ∃ v, e = .returned (.agg #[.int .i64 0, .int .i64 100, v]) ∧ Sl e3 3 w' v exLine.ks ∧ Below w.heap.size w w' := by
  go_enter Try.func84, Try.ntmps84
  go_wp2_with fail
  obtain ⟨W5, hW5⟩ : ∃ W5, W5 = ((w.alloc (.cells #[.int .i64 0, .int .i64 100, .slice (some ⟨w.heap.size + 1, 0, none⟩) 3 3] 26)).alloc (.cells #[.int .i64 10, .int .i64 20, .int .i64 3, .int .i64 10, .int .i64 (-20), .int .i64 5, .int .i64 5, .int .i64 0, .int .i64 0] 63)) := ⟨_, rfl⟩
  rw [← hW5]
  have bx := (box2 w #[.int .i64 0, .int .i64 100, .slice (some ⟨w.heap.size + 1, 0, none⟩) 3 3] #[.int .i64 10, .int .i64 20, .int .i64 3, .int .i64 10, .int .i64 (-20), .int .i64 5, .int .i64 5, .int .i64 0, .int .i64 0] 26 63).1
  rw [← hW5] at bx
  have s0 := (bx 0 _ rfl).1
  have s1 := (bx 1 _ rfl).1
  have s2 := (bx 2 _ rfl).1
  have HS : Sl e3 3 W5 (.slice (some ⟨w.heap.size + 1, 0, none⟩) 3 3) exLine.ks := by
    have h := (Ow.lit (enc := e3) (s := 3) (base := 0) (w.alloc (.cells #[.int .i64 0, .int .i64 100, .slice (some ⟨w.heap.size + 1, 0, none⟩) 3 3] 26)) #[.int .i64 10, .int .i64 20, .int .i64 3, .int .i64 10, .int .i64 (-20), .int .i64 5, .int .i64 5, .int .i64 0, .int .i64 0] (e := 63) exLine.ks (Nat.zero_le _) (by decide) rfl rfl).sl e3_len
    rw [hW5]
    rw [World.size_alloc] at h
    exact h
  have HB : Below w.heap.size w W5 := by rw [hW5]; exact below_al (below_alloc1 _ _) _
  clear bx hW5
  refine bodyPost_ret (v := .agg #[.int .i64 0, .int .i64 100, .slice (some ⟨w.heap.size + 1, 0, none⟩) 3 3]) ?_ rfl ⟨_, rfl, HS, HB⟩
  rw [results_cell rfl]
  go_simp
theorem Currents_any (w : World) : Calls Try.prog 85 #[] w fun e w' => ∃ v, e = .returned v ∧ Sl e1 1 w' v exCur ∧ Below w.heap.size w w' := by
  go_enter Try.func85, Try.ntmps85
  go_wp2_with fail
  go_ret
  exact ⟨_, rfl, sl3 w 4 (-2) 7 _, below_alloc1 _ _⟩
theorem Box_any (w : World) : Calls Try.prog 86 #[] w fun e w' => ∃ v, e = .returned v ∧ Sl e2 2 w' v exBox ∧ Below w.heap.size w w' := by
  have H := Lib.hid (fun t => (Ow.lit (enc := e2) (s := 2) (base := 0) w #[.int .i64 2, .int .i64 4, .int .i64 (-2), .int .i64 0, .int .i64 0, .int .i64 9] (e := t) exBox (Nat.zero_le _) (by decide) rfl rfl).sl e2_len)
  go_enter Try.func86, Try.ntmps86
  go_wp2_with fail
  go_ret
  exact ⟨_, rfl, H.out _, below_alloc1 _ _⟩
end Go.Proofs.Ytghglgaimhfedaa

namespace Go.Proofs.Ytghglgaimhfedaa
open Go.RowKit Go.Shelf

theorem ex_tensions : tensionsOf exLine exCur = ([(12, 120), (2, 100), (2, 100)], 0) := by kernel_rfl
theorem ex_layback : laybackIn exLine exBox = ((-2, 4), 0) := by kernel_rfl
theorem ex_sharpest : sharpestIn exLine exCur = (0, (1600, 252601), 0) := by kernel_rfl
def exPath : List Pt := [(0, 0), (4, 0), (4, 4), (0, 4)]
theorem ex_winding : windingOf exPath (1, 2) = (1, 0) := by kernel_rfl
theorem eq_range (w : World) (a b : Int) : (binOp .eql 66 (.agg #[.int .i64 a, .int .i64 b]) (.agg #[.int .i64 a, .int .i64 b])).run Try.prog w = .ok (.bool true) w := by
  rw [run_eql_struct, run_equalIn_agg w 9999 66 _ _ (by kernel_rfl) (by kernel_rfl)]
  go_simp
theorem eq_frac (w : World) (a b : Int) : (binOp .eql 75 (.agg #[.int .i64 a, .int .i64 b]) (.agg #[.int .i64 a, .int .i64 b])).run Try.prog w = .ok (.bool true) w := by
  rw [run_eql_struct, run_equalIn_agg w 9999 75 _ _ (by kernel_rfl) (by kernel_rfl)]
  go_simp
theorem slN (w : World) (cs : Array Value) (xs : List (Int × Int)) (t : TypeId) (hm : xs.length ≤ 1000000) (hs : cs.size = xs.length * 2) (hc : cs.toList = xs.flatMap e2) :
    Sl e2 2 (w.alloc (.cells cs t)) (.slice (some ⟨w.heap.size, 0, none⟩) xs.length xs.length) xs := (Ow.lit (base := w.heap.size) w cs xs (Nat.le_refl _) hm hs hc).sl e2_len
theorem ex_HT : ∀ v u w, Sl e3 3 w v exLine.ks → Sl e1 1 w u exCur → Calls Try.prog 28 #[.agg #[.int .i64 0, .int .i64 100, v], u] w fun e w' => ∃ r, e = .returned (.tuple #[r, .int .i64 0]) ∧ Ow e2 2 23 w.heap.size w' r [(12, 120), (2, 100), (2, 100)] ∧ Below w.heap.size w w' := by
  intro v u w h1 h2
  have := TensionsOf_any v u exLine exCur w h1 h2 (by decide) (by decide)
  rw [ex_tensions] at this
  exact this
theorem ex_HL : ∀ v u w, Sl e3 3 w v exLine.ks → Sl e2 2 w u exBox → Calls Try.prog 59 #[.agg #[.int .i64 0, .int .i64 100, v], u] w fun e w' => e = .returned (.tuple #[.agg #[.int .i64 (-2), .int .i64 4], .int .i64 0]) ∧ Below w.heap.size w w' := by
  intro v u w h1 h2
  have := LaybackIn_any v u exLine exBox w h1 h2 (by decide) (by decide)
  rw [ex_layback] at this
  exact this
theorem ex_HS : ∀ v u w, Sl e3 3 w v exLine.ks → Sl e1 1 w u exCur → Calls Try.prog 45 #[.agg #[.int .i64 0, .int .i64 100, v], u] w fun e w' => e = .returned (.tuple #[.int .i64 0, .agg #[.int .i64 1600, .int .i64 252601], .int .i64 0]) ∧ Below w.heap.size w w' := by
  intro v u w h1 h2
  have := SharpestIn_any v u exLine exCur w h1 h2 (by decide) (by decide)
  rw [ex_sharpest] at this
  exact this
theorem ex_HW : ∀ v w, Sl e2 2 w v exPath → Calls Try.prog 73 #[v, .agg #[.int .i64 1, .int .i64 2]] w fun e w' => e = .returned (.tuple #[.int .i64 1, .int .i64 0]) ∧ Below w.heap.size w w' := by
  intro v w h1
  have := WindingOf_any v exPath (1, 2) w h1 (by decide)
  rw [ex_winding] at this
  exact this
theorem ex_HF : ∀ u v w, Sl e2 2 w u [(12, 120), (2, 100), (2, 100)] → Sl e2 2 w v [(12, 120), (2, 100), (2, 100)] → Calls Try.prog 37 #[u, v] w fun e w' => e = .returned (.bool true) ∧ Below w.heap.size w w' := by
  intro u v w h1 h2
  have := Forces_any u v [(12, 120), (2, 100), (2, 100)] [(12, 120), (2, 100), (2, 100)] w h1 h2 (by decide) (by decide)
  rw [eqL_refl] at this
  exact this
theorem slPath (w : World) (cs : Array Value) (t u : TypeId) : Sl e2 2 ((w.alloc (.cells cs t)).alloc (.cells #[.int .i64 0, .int .i64 0, .int .i64 4, .int .i64 0, .int .i64 4, .int .i64 4, .int .i64 0, .int .i64 4] u)) (.slice (some ⟨w.heap.size + 1, 0, none⟩) 4 4) exPath := by
  have h := slN (w.alloc (.cells cs t)) #[.int .i64 0, .int .i64 0, .int .i64 4, .int .i64 0, .int .i64 4, .int .i64 4, .int .i64 0, .int .i64 4] exPath u (by decide) rfl rfl
  rw [World.size_alloc] at h
  exact h
theorem slForces (w : World) (u : TypeId) : Sl e2 2 (w.alloc (.cells #[.int .i64 12, .int .i64 120, .int .i64 2, .int .i64 100, .int .i64 2, .int .i64 100] u)) (.slice (some ⟨w.heap.size, 0, none⟩) 3 3) [(12, 120), (2, 100), (2, 100)] :=
  slN w _ [(12, 120), (2, 100), (2, 100)] u (by decide) rfl rfl
set_option maxRecDepth 100000 in
set_option maxHeartbeats 400000 in
theorem awake_any (w : World) : Calls Try.prog 14 #[] w fun e w' => e = .returned (.bool true) ∧ Below w.heap.size w w' := by
  have HT := Lib.hid ex_HT
  have HL := Lib.hid ex_HL
  have HS := Lib.hid ex_HS
  have HW := Lib.hid ex_HW
  have HF := Lib.hid ex_HF
  have T1 : Hid True := trivial
  have T2 : Hid True := trivial
  have T4 : Hid True := trivial
  have q1 := eq_range
  have q2 := eq_frac
  go_enter Try.func14, Try.ntmps14
  go_wp2_with (first
    | (go_at_call 84; clear T1; refine (Line_any _).mono ?_; rintro e w1 ⟨v1, rfl, s1, b1⟩)
    | (go_at_call 85; clear T2; refine (Currents_any _).mono ?_; rintro e w2 ⟨v2, rfl, s2, b2⟩)
    | (go_at_call 28; refine (HT.out _ _ _ (s1.below b2) s2).mono ?_; rintro e w3 ⟨r3, rfl, o3, b3⟩; have H3 := Lib.hid (And.intro (o3.sl e2_len) (below_tr (below_tr b1 b2) b3)); clear o3 b1 b2 b3 s1 s2)
    | (go_at_call 84; clear T4; refine (Line_any _).mono ?_; rintro e w4 ⟨v4, rfl, s4, b4⟩)
    | (go_at_call 86; refine (Box_any _).mono ?_; rintro e w5 ⟨v5, rfl, s5, b5⟩)
    | (go_at_call 59; refine (HL.out _ _ _ (s4.below b5) s5).mono ?_; rintro e w6 ⟨rfl, b6⟩; have H6 := Lib.hid (below_tr (below_tr b4 b5) b6); clear b4 b5 b6 s4 s5)
    | (go_at_call 84; refine (Line_any _).mono ?_; rintro e w7 ⟨v7, rfl, s7, b7⟩)
    | (go_at_call 85; refine (Currents_any _).mono ?_; rintro e w8 ⟨v8, rfl, s8, b8⟩)
    | (go_at_call 45; refine (HS.out _ _ _ (s7.below b8) s8).mono ?_; rintro e w9 ⟨rfl, b9⟩; have H9 := Lib.hid (below_tr (below_tr b7 b8) b9); have HP := Lib.hid (slPath w9 #[.int .i64 1600, .int .i64 252601] 75 61); clear b7 b8 b9 s7 s8)
    | (go_at_call 73; refine (HW.out _ _ HP.out).mono ?_; rintro e w10 ⟨rfl, b10⟩; have H10 := Lib.hid (below_tr (below_al (below_al (below_tr (below_al H6.out _) H9.out) _) _) b10); have R6 := fun j v hv => ((((At.new w6 #[.int .i64 (-2), .int .i64 4] 66 j v hv).below H9.out).al (.cells #[.int .i64 1600, .int .i64 252601] 75)).al (.cells #[.int .i64 0, .int .i64 0, .int .i64 4, .int .i64 0, .int .i64 4, .int .i64 4, .int .i64 0, .int .i64 4] 61)).below b10; have R9 := fun j v hv => ((At.new w9 #[.int .i64 1600, .int .i64 252601] 75 j v hv).al (.cells #[.int .i64 0, .int .i64 0, .int .i64 4, .int .i64 0, .int .i64 4, .int .i64 4, .int .i64 0, .int .i64 4] 61)).below b10; have A6 := Lib.hid (And.intro (R6 0 _ rfl) (R6 1 _ rfl)); have A9 := Lib.hid (And.intro (R9 0 _ rfl) (R9 1 _ rfl)); clear R6 R9 b10)
    | (go_at_call 37; refine (HF.out _ _ _ ((H3.out.1.below H10.out).alloc _) (slForces w10 _)).mono ?_; rintro e w11 ⟨rfl, b11⟩; obtain ⟨c0, _⟩ := (A6.out.1.al _).below b11; obtain ⟨c1, _⟩ := (A6.out.2.al _).below b11; obtain ⟨c2, _⟩ := (A9.out.1.al _).below b11; obtain ⟨c3, _⟩ := (A9.out.2.al _).below b11; have H11 := Lib.hid (below_tr (below_al (below_tr H3.out.2 H10.out) _) b11); clear b11))
  go_ret
  exact ⟨rfl, H11.out⟩
end Go.Proofs.Ytghglgaimhfedaa
