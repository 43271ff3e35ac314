/-
  Walks of the reference's lines: tensions, heights, slack, the least load.
-/
import Derived.Test.YtghglgaimhfedaaQI
import Derived.Test.YtghglgaimhfedaaQH
import Derived.StillTailTactics
import Derived.Test.YtghglgaimhfedaaQJ
import Derived.Deep.DeepAppendWide
namespace Go.Proofs.Ytghglgaimhfedaa
open Go.RowKit Go.Shelf

theorem forceinfo : (Try.prog.info? 23).map (fun i => (i.zero, i.size, i.bytes)) = some (some (.agg #[.int .i64 0, .int .i64 0]), 2, 16) := by kernel_rfl

/-- Tensions one after another, out of currents. -/
def tensF (x z : Int) : List Lk → List Int → List (Int × Int)
  | k :: ks, n :: c => (x + k.2.2 * n, z + k.2.1) :: tensF (x + k.2.2 * n) (z + k.2.1) ks c
  | _, _ => []
def tens (l : Ln) (c : List Int) : List (Int × Int) := tensF l.x l.z l.ks c
/-- The tension below the link k. -/
def tb (l : Ln) (c : List Int) (k : Nat) : Int × Int := ((l.x, l.z) :: tens l c).getD k (0, 0)
theorem tensF_len (x z : Int) (ks : List Lk) (c : List Int) (h : c.length = ks.length) : (tensF x z ks c).length = ks.length := by
  induction ks generalizing x z c with
  | nil => cases c <;> rfl
  | cons k r ih =>
    cases c with
    | nil => simp at h
    | cons n c => simp [tensF, ih _ _ c (by simpa using h)]
theorem tensF_at (x z : Int) (ks : List Lk) (c : List Int) (h : c.length = ks.length) (i : Nat) (hi : i < ks.length) :
    (tensF x z ks c)[i]? = some ((((x, z) :: tensF x z ks c).getD i (0, 0)).1 + ks[i].2.2 * c.getD i 0, (((x, z) :: tensF x z ks c).getD i (0, 0)).2 + ks[i].2.1) := by
  induction ks generalizing x z c i with
  | nil => simp at hi
  | cons k r ih =>
    cases c with
    | nil => simp at h
    | cons n c =>
      cases i with
      | zero => simp [tensF]
      | succ i =>
        have := ih (x + k.2.2 * n) (z + k.2.1) c (by simpa using h) i (by simpa using hi)
        simp only [tensF, List.getElem?_cons_succ, List.getElem_cons_succ, List.getD_cons_succ]
        exact this
theorem tens_len (l : Ln) (c : List Int) (h : c.length = l.ks.length) : (tens l c).length = l.ks.length := tensF_len _ _ _ _ h
theorem tb_succ (l : Ln) (c : List Int) (h : c.length = l.ks.length) (k : Nat) (hk : k < l.ks.length) :
    tb l c (k + 1) = ((tb l c k).1 + l.ks[k].2.2 * c.getD k 0, (tb l c k).2 + l.ks[k].2.1) ∧ (tens l c).take (k + 1) = (tens l c).take k ++ [tb l c (k + 1)] := by
  have h1 := tensF_at l.x l.z l.ks c h k hk
  have e : tb l c (k + 1) = (tens l c).getD k (0, 0) := by unfold tb; rw [List.getD_cons_succ]
  have hl : k < (tens l c).length := by rw [tens_len l c h]; exact hk
  refine ⟨?_, ?_⟩
  · rw [e, List.getD_eq_getElem?_getD]
    show ((tensF l.x l.z l.ks c)[k]?).getD (0, 0) = _
    rw [h1]
    rfl
  · rw [List.take_succ_eq_append_getElem hl, e, getD_eq _ _ _ hl]
theorem tensF_bd (B x z : Int) (ks : List Lk) (c : List Int) (hx : -B ≤ x ∧ x ≤ B) (hz : -B ≤ z ∧ z ≤ B) (hk : ∀ k ∈ ks, 1 ≤ k.1 ∧ k.1 ≤ 1000 ∧ -1000 ≤ k.2.1 ∧ k.2.1 ≤ 1000 ∧ 0 ≤ k.2.2 ∧ k.2.2 ≤ 20)
    (hc : ∀ n ∈ c, -50 ≤ n ∧ n ≤ 50) : ∀ t ∈ tensF x z ks c, (-(B + 1000 * ks.length) ≤ t.1 ∧ t.1 ≤ B + 1000 * ks.length) ∧ (-(B + 1000 * ks.length) ≤ t.2 ∧ t.2 ≤ B + 1000 * ks.length) := by
  induction ks generalizing B x z c with
  | nil => intro p hp; cases c <;> simp [tensF] at hp
  | cons k r ih =>
    cases c with
    | nil => intro p hp; simp [tensF] at hp
    | cons n c =>
      have k0 := hk k (by simp)
      have c0 := hc n (by simp)
      have m1 := mulz k.2.2 n (by omega) (by omega) (by omega) (by omega)
      intro p hp
      simp only [tensF, List.mem_cons] at hp
      simp only [List.length_cons]
      rcases hp with rfl | hp
      · simp only; omega
      · have := ih (B + 1000) _ _ c (by omega) (by omega) (fun k' hk' => hk k' (by simp [hk'])) (fun r' hr' => hc r' (by simp [hr'])) p hp
        omega
structure CuOk (l : Ln) (c : List Int) : Prop where
  len : c.length = l.ks.length
  ok : ∀ n ∈ c, -50 ≤ n ∧ n ≤ 50
theorem tens_bd {l : Ln} {c : List Int} (hl : LnOk l) (hc : CuOk l c) : ∀ t ∈ tens l c, (-20000 ≤ t.1 ∧ t.1 ≤ 20000) ∧ (-20000 ≤ t.2 ∧ t.2 ≤ 20000) := by
  intro t ht
  have := tensF_bd 10000 l.x l.z l.ks c ⟨by have := hl.x0; omega, hl.x1⟩ ⟨by have := hl.z0; omega, hl.z1⟩ hl.ok hc.ok t ht
  have := hl.n1
  omega
theorem tb_bd {l : Ln} {c : List Int} (hl : LnOk l) (hc : CuOk l c) (k : Nat) (hk : k ≤ l.ks.length) : (-20000 ≤ (tb l c k).1 ∧ (tb l c k).1 ≤ 20000) ∧ (-20000 ≤ (tb l c k).2 ∧ (tb l c k).2 ≤ 20000) := by
  unfold tb
  cases k with
  | zero => have := hl.x0; have := hl.x1; have := hl.z0; have := hl.z1; simp; omega
  | succ k =>
    rw [List.getD_cons_succ]
    have hk' : k < (tens l c).length := by rw [tens_len l c hc.len]; omega
    rw [getD_eq _ _ _ hk']
    exact tens_bd hl hc _ (List.getElem_mem _)
theorem cursErr_cu {l : Ln} {c : List Int} (h : cursErr l c = 0) : CuOk l c := by
  have h1 := cursErr_ok h
  refine ⟨by have := h1.len; simpa [still] using this, fun n hn => ?_⟩
  have := h1.ok (n, n) (by simp [still]; exact hn)
  exact ⟨this.1, this.2.2⟩

theorem Ow.set {α : Type} {enc : α → List Value} {s : Nat} {e : TypeId} {base : Nat} {w : World} {v : Value} {xs : List α} (h : Ow enc s e base w v xs) {p : Addr} (hp : p.block < base) {u : Value} : Ow enc s e base (w.setCell p u) v xs :=
  World.ownsRow.kept (row := some p.block) h ⟨rfl, rfl, rfl, by simp, fun k _ hne => Below.heap_setCell w p u k (by rintro rfl; exact hne rfl)⟩ (.inr (h.apart hp))
set_option maxRecDepth 100000 in
set_option maxHeartbeats 1000000 in
theorem Tensions_any (v u : Value) (l : Ln) (cu : List Int) (w : World) (hs : Sl e3 3 w v l.ks) (hu : Sl e1 1 w u cu) (hl : LnOk l) (hc : CuOk l cu) :
    Calls Try.prog 38 #[.agg #[.int .i64 l.x, .int .i64 l.z, v], u] w fun e w' => ∃ r, e = .returned r ∧ Ow e2 2 23 w.heap.size w' r (tens l cu) ∧ Below w.heap.size w w' := by
  obtain ⟨i0, hi, hz0, hz1, hz2⟩ := info_parts forceinfo
  obtain ⟨A, c, rfl, hcap⟩ := hs.form
  obtain ⟨A', c', rfl, hcap'⟩ := hu.form
  have HS := Lib.hid hs
  have HU := Lib.hid hu
  have HL := Lib.hid hl
  have HC := Lib.hid hc
  have hn1 := hl.n1
  clear hs hu hl hc
  go_enter Try.func38, Try.ntmps38
  go_wp2_with fail
  go_loopw [5, 7] (fun r i wr => ∃ k : Nat, k ≤ l.ks.length ∧ i = .int .i64 k ∧ Ow e2 2 23 (w.heap.size + 2) wr r ((tens l cu).take k) ∧ Below w.heap.size w wr ∧ At wr ⟨w.heap.size, 2, none⟩ (.slice A l.ks.length c) ∧
      At wr ⟨w.heap.size + 1, 0, none⟩ (.int .i64 (tb l cu k).1) ∧ At wr ⟨w.heap.size + 1, 1, none⟩ (.int .i64 (tb l cu k).2)) (fun _ i _ => l.ks.length - (intOf i).toNat)
  case atStart =>
    obtain ⟨x1, y1⟩ := box2 w #[.int .i64 l.x, .int .i64 l.z, .slice A l.ks.length c] #[.int .i64 l.x, .int .i64 l.z] 26 23
    exact ⟨0, Nat.zero_le _, rfl, Ow.nil _ _ _ _ _, below_al (below_alloc1 _ _) _, x1 2 _ rfl, y1 0 _ rfl, y1 1 _ rfl⟩
  case round =>
    obtain ⟨k, hk, rfl, hown, hb, hq, ht1, ht2⟩ := hrel
    have hqc := hq.1
    have htc1 := ht1.1
    have htc2 := ht2.1
    have htf1 := ht1.2
    have htf2 := ht2.2
    have HO := Lib.hid hown
    have HB := Lib.hid hb
    have HA := Lib.hid (And.intro hq (And.intro ht1 ht2))
    clear hown hq ht1 ht2
    by_cases hlt : k < l.ks.length
    · obtain ⟨b, off, rfl, hbl, hc0, hc1, hc2⟩ := (HS.out.below hb).at3 hlt
      have hlu : k < cu.length := by rw [HC.out.len]; exact hlt
      obtain ⟨b', off', rfl, hbl', hd0⟩ := (HU.out.below hb).at1 hlu
      obtain ⟨hsucc, htk⟩ := tb_succ l cu HC.out.len k hlt
      rw [getD_eq _ _ _ hlu] at hsucc
      obtain ⟨⟨g1, g2⟩, g3, g4⟩ := tb_bd HL.out HC.out k (by omega)
      obtain ⟨_, _, g5, g6, g7, g8⟩ := HL.out.ok _ (List.getElem_mem hlt)
      obtain ⟨g9, g10⟩ := HC.out.ok _ (List.getElem_mem hlu)
      obtain ⟨m1, m2⟩ := mulz l.ks[k].2.2 cu[k] g7 g8 g9 g10
      have hlen : ((tens l cu).take k).length ≤ k := List.length_take_le _ _
      have HT := Lib.hid htk
      have HN := Lib.hid hsucc
      have hklu : (k : Int) < (cu.length : Int) := by omega
      clear htk hsucc hb
      generalize tb l cu k = t at *
      generalize l.ks[k] = kk at *
      generalize cu[k] = n at *
      obtain ⟨tx, tz⟩ := t
      obtain ⟨k1, k2, k3⟩ := kk
      simp only at *
      have hw1 : IntKind.i64.wrap (k3 * n) = k3 * n := IntWalk.i64_in _ (by omega)
      have hw2 : IntKind.i64.wrap (tx + k3 * n) = tx + k3 * n := IntWalk.i64_in _ (by omega)
      have hw3 : IntKind.i64.wrap (tz + k2) = tz + k2 := IntWalk.i64_in _ (by omega)
      have A0 : At (((wr.setCell ⟨w.heap.size + 1, 0, none⟩ (.int .i64 (tx + k3 * n))).setCell ⟨w.heap.size + 1, 1, none⟩ (.int .i64 (tz + k2))).drew) ⟨w.heap.size + 1, 0, none⟩ (.int .i64 (tx + k3 * n)) := ((HA.out.2.1.set).other (by simp)).drew
      have A1 : At (((wr.setCell ⟨w.heap.size + 1, 0, none⟩ (.int .i64 (tx + k3 * n))).setCell ⟨w.heap.size + 1, 1, none⟩ (.int .i64 (tz + k2))).drew) ⟨w.heap.size + 1, 1, none⟩ (.int .i64 (tz + k2)) := ((HA.out.2.2.other (by simp)).set).drew
      have A2 : At (((wr.setCell ⟨w.heap.size + 1, 0, none⟩ (.int .i64 (tx + k3 * n))).setCell ⟨w.heap.size + 1, 1, none⟩ (.int .i64 (tz + k2))).drew) ⟨w.heap.size, 2, none⟩ (.slice (some ⟨b, off, none⟩) l.ks.length c) := ((HA.out.1.other (by simp)).other (by simp)).drew
      have HO5 : Hid (Ow e2 2 23 (w.heap.size + 2) (((wr.setCell ⟨w.heap.size + 1, 0, none⟩ (.int .i64 (tx + k3 * n))).setCell ⟨w.heap.size + 1, 1, none⟩ (.int .i64 (tz + k2))).drew) u5 ((tens l cu).take k)) := ((HO.out.set (by show w.heap.size + 1 < _; omega)).set (by show w.heap.size + 1 < _; omega)).drew
      have HB5 : Hid (Below w.heap.size w (((wr.setCell ⟨w.heap.size + 1, 0, none⟩ (.int .i64 (tx + k3 * n))).setCell ⟨w.heap.size + 1, 1, none⟩ (.int .i64 (tz + k2))).drew)) := (below_set (below_set HB.out (by show w.heap.size ≤ w.heap.size + 1; omega) _) (by show w.heap.size ≤ w.heap.size + 1; omega) _).drew
      have HA5 := Lib.hid (And.intro A2 (And.intro A0 A1))
      have hz5 : w.heap.size + 2 ≤ wr.heap.size := by have := HA.out.2.1.lt; simp only at this; omega
      have HO7 : Hid (World.ownsRow (((wr.setCell ⟨w.heap.size + 1, 0, none⟩ (.int .i64 (tx + k3 * n))).setCell ⟨w.heap.size + 1, 1, none⟩ (.int .i64 (tz + k2))).alloc (.cells #[.int .i64 (tx + k3 * n), .int .i64 (tz + k2)] 23)).drew (w.heap.size + 2) 23 2 u5 ((tens l cu).take k).length (((tens l cu).take k).flatMap e2)) := HO5.out.own.alloc _
      have HC7 : Hid (∀ j u, (e2 (tx + k3 * n, tz + k2))[j]? = some u → (((wr.setCell ⟨w.heap.size + 1, 0, none⟩ (.int .i64 (tx + k3 * n))).setCell ⟨w.heap.size + 1, 1, none⟩ (.int .i64 (tz + k2))).alloc (.cells #[.int .i64 (tx + k3 * n), .int .i64 (tz + k2)] 23)).drew.cell? ((⟨wr.heap.size, 0, none⟩ : Addr).add j) = some u) := by
        intro j u hj
        have h := cells_new ((wr.setCell ⟨w.heap.size + 1, 0, none⟩ (.int .i64 (tx + k3 * n))).setCell ⟨w.heap.size + 1, 1, none⟩ (.int .i64 (tz + k2))) (e2 (tx + k3 * n, tz + k2)) 23 j u hj
        rw [World.size_setCell, World.size_setCell] at h
        exact h
      clear A0 A1 A2
      go_wp2_with fail
      go_still_tail 24, (by kernel_rfl)
      go_wp2_with (at_builtin; refine wpList_append_own _ rfl _ _ 47 rfl (w.heap.size + 2) 23 i0 _ 2 16 Try.underlying47 hi hz0 hz1 hz2 rfl (by decide) _ _ _ rfl HO7.out ⟨_, 0, none⟩ 1 1 (e2 (tx + k3 * n, tz + k2)) rfl rfl HC7.out (e2_one _) (by simp only [maxLen]; omega) (by omega) (by simp; omega) ?_; intro v1 w6 hown1 hg1 _; have HO6 := Lib.hid hown1; have HG := Lib.hid hg1; clear hown1 hg1)
      go_roundw
      case rel =>
        have hap := fun j (hj : j < w.heap.size + 2) => HO5.out.apart (k := j) hj
        refine ⟨k + 1, by omega, by go_num, by rw [HT.out, HN.out]; exact Ow.snoc HO6.out, (below_al HB5.out _).grown HG.out (below_al HB5.out _).size (fun j e => by have := (World.ownsRow.lt HO5.out j e).1; omega), (HA5.out.1.al _).grown HG.out (hap _ (by show w.heap.size < _; omega)), ?_, ?_⟩
        · rw [HN.out]; exact (HA5.out.2.1.al _).grown HG.out (hap _ (by show w.heap.size + 1 < _; omega))
        · rw [HN.out]; exact (HA5.out.2.2.al _).grown HG.out (hap _ (by show w.heap.size + 1 < _; omega))
      case measure => simp [intOf]; omega
    · clear hb
      obtain rfl : k = l.ks.length := by omega
      have hfin : (tens l cu).take l.ks.length = tens l cu := List.take_of_length_le (by rw [tens_len l cu HC.out.len]; omega)
      rw [hfin] at HO
      go_wp2_with fail
      go_ret
      exact ⟨_, rfl, HO.out.less (by omega), HB.out⟩
end Go.Proofs.Ytghglgaimhfedaa

namespace Go.Proofs.Ytghglgaimhfedaa
open Go.RowKit Go.Shelf

theorem rangeinfo2 : (Try.prog.info? 66).map (fun i => (i.zero, i.size, i.bytes)) = some (some (.agg #[.int .i64 0, .int .i64 0]), 2, 16) := by kernel_rfl
theorem linkinfo : (Try.prog.info? 63).map (fun i => (i.zero, i.size, i.bytes)) = some (some (.agg #[.int .i64 0, .int .i64 0, .int .i64 0]), 3, 24) := by kernel_rfl
set_option maxHeartbeats 400000 in
theorem CopyRanges_any (v : Value) (xs : List (Int × Int)) (w : World) (hs : Sl e2 2 w v xs) (hbig : xs.length ≤ 1000) :
    Calls Try.prog 19 #[v] w fun e w' => ∃ r, e = .returned r ∧ Ow e2 2 66 w.heap.size w' r xs ∧ Below w.heap.size w w' := by
  have HS := Lib.hid hs
  obtain ⟨A, c, rfl, hcap⟩ := hs.form
  obtain ⟨i0, hi, hz0, hz1, hz2⟩ := info_parts rangeinfo2
  have ho : Ow e2 2 66 w.heap.size (w.alloc (.cells #[] 66)) (.slice (some ⟨w.heap.size, 0, none⟩) 0 0) [] := Ow.lit w #[] [] (Nat.le_refl _) (by simp) rfl rfl
  have HO := Lib.hid ho
  clear hs ho
  go_enter Try.func19, Try.ntmps19
  go_wp2_with (at_builtin; refine wpList_append_sl _ rfl _ _ 27 rfl w.heap.size 66 i0 _ 2 16 Try.underlying27 hi hz0 hz1 hz2 rfl (by decide) e2_len e2_one _ [] rfl HO.out _ _ _ xs rfl (HS.out.alloc _) (by simp; omega) (by decide) (by simp) ?_; intro v1 w2 hown1 hg1; have HO2 := Lib.hid hown1; have HG := Lib.hid hg1; clear hown1 hg1)
  go_ret
  exact ⟨_, rfl, by simpa using HO2.out, HO.out.grown HG.out (below_alloc1 _ _) (Nat.le_refl _)⟩
set_option maxHeartbeats 400000 in
theorem CopyInts_any (v : Value) (xs : List Int) (w : World) (hs : Sl e1 1 w v xs) (hbig : xs.length ≤ 1000) :
    Calls Try.prog 29 #[v] w fun e w' => ∃ r, e = .returned r ∧ Ow e1 1 3 w.heap.size w' r xs ∧ Below w.heap.size w w' := by
  have HS := Lib.hid hs
  obtain ⟨A, c, rfl, hcap⟩ := hs.form
  obtain ⟨i0, hi, hz0, hz1, hz2⟩ := info_parts intinfo
  have ho : Ow e1 1 3 w.heap.size (w.alloc (.cells #[] 3)) (.slice (some ⟨w.heap.size, 0, none⟩) 0 0) [] := Ow.lit w #[] [] (Nat.le_refl _) (by simp) rfl rfl
  have HO := Lib.hid ho
  clear hs ho
  go_enter Try.func29, Try.ntmps29
  go_wp2_with (at_builtin; refine wpList_append_sl _ rfl _ _ 36 rfl w.heap.size 3 i0 _ 1 8 Try.underlying36 hi hz0 hz1 hz2 rfl (by decide) e1_len e1_one _ [] rfl HO.out _ _ _ xs rfl (HS.out.alloc _) (by simp; omega) (by decide) (by simp) ?_; intro v1 w2 hown1 hg1; have HO2 := Lib.hid hown1; have HG := Lib.hid hg1; clear hown1 hg1)
  go_ret
  exact ⟨_, rfl, by simpa using HO2.out, HO.out.grown HG.out (below_alloc1 _ _) (Nat.le_refl _)⟩
set_option maxHeartbeats 400000 in
theorem CopyForces_any (v : Value) (xs : List (Int × Int)) (w : World) (hs : Sl e2 2 w v xs) (hbig : xs.length ≤ 1000) :
    Calls Try.prog 31 #[v] w fun e w' => ∃ r, e = .returned r ∧ Ow e2 2 23 w.heap.size w' r xs ∧ Below w.heap.size w w' := by
  have HS := Lib.hid hs
  obtain ⟨A, c, rfl, hcap⟩ := hs.form
  obtain ⟨i0, hi, hz0, hz1, hz2⟩ := info_parts forceinfo
  have ho : Ow e2 2 23 w.heap.size (w.alloc (.cells #[] 23)) (.slice (some ⟨w.heap.size, 0, none⟩) 0 0) [] := Ow.lit w #[] [] (Nat.le_refl _) (by simp) rfl rfl
  have HO := Lib.hid ho
  clear hs ho
  go_enter Try.func31, Try.ntmps31
  go_wp2_with (at_builtin; refine wpList_append_sl _ rfl _ _ 47 rfl w.heap.size 23 i0 _ 2 16 Try.underlying47 hi hz0 hz1 hz2 rfl (by decide) e2_len e2_one _ [] rfl HO.out _ _ _ xs rfl (HS.out.alloc _) (by simp; omega) (by decide) (by simp) ?_; intro v1 w2 hown1 hg1; have HO2 := Lib.hid hown1; have HG := Lib.hid hg1; clear hown1 hg1)
  go_ret
  exact ⟨_, rfl, by simpa using HO2.out, HO.out.grown HG.out (below_alloc1 _ _) (Nat.le_refl _)⟩
theorem isCurrent_any (n : Int) (w : World) :
    Calls Try.prog 97 #[.int .i64 n] w fun e w' => e = .returned (.bool (inR 50 n)) ∧ w = w' := by
  have E : Hid (inB n (-50) 50 = inR 50 n) := rfl
  go_enter Try.func97, Try.ntmps97
  go_wp2_with (go_at_call 27; refine (Within_any _ _ _ _).mono ?_; rintro e w' ⟨rfl, rfl⟩)
  go_ret
  exact ⟨ret_bool E.out, by trivial⟩
def fewB (k : Nat) (n : Int) : Bool := decide (k ≤ 12 ∧ n ≤ 14)
theorem few_any (v : Value) (l : Ln) (n : Int) (w : World) (hs : Sl e3 3 w v l.ks) :
    Calls Try.prog 15 #[.agg #[.int .i64 l.x, .int .i64 l.z, v], .int .i64 n] w fun e w' => e = .returned (.bool (fewB l.ks.length n)) ∧ Below w.heap.size w w' := by
  obtain ⟨A, c, rfl, hcap⟩ := hs.form
  clear hs
  by_cases h1 : l.ks.length ≤ 12
  · have h1' : (l.ks.length : Int) ≤ 12 := by omega
    by_cases h2 : n ≤ 14
    · have E : Hid (fewB l.ks.length n = true) := by unfold Hid fewB; simp [h1, h2]
      go_enter Try.func15, Try.ntmps15
      go_wp2_with fail
      go_ret
      exact ⟨by rw [E.out]; rfl, below_alloc1 _ _⟩
    · have E : Hid (fewB l.ks.length n = false) := by unfold Hid fewB; simp [h2]
      go_enter Try.func15, Try.ntmps15
      go_wp2_with fail
      go_ret
      exact ⟨by rw [E.out]; (first | rfl | (congr 2; simp; omega)), below_alloc1 _ _⟩
  · have h1' : ¬ (l.ks.length : Int) ≤ 12 := by omega
    have E : Hid (fewB l.ks.length n = false) := by unfold Hid fewB; simp [h1]
    go_enter Try.func15, Try.ntmps15
    go_wp2_with fail
    go_ret
    exact ⟨by rw [E.out]; (first | rfl | (congr 2; simp; omega)), below_alloc1 _ _⟩
end Go.Proofs.Ytghglgaimhfedaa

namespace Go.Proofs.Ytghglgaimhfedaa
open Go.RowKit Go.Shelf
attribute [local go_sem] monoUpon_value monoUpon_skip monoUpon_enter

theorem tensF_pulls (lo hi z : Int) (ks : List Lk) (c : List Int) : (pullsF lo hi z ks (still c)).map (fun p => (p.lo, p.z)) = tensF lo z ks c := by
  induction ks generalizing lo hi z c with
  | nil => cases c <;> rfl
  | cons k r ih =>
    cases c with
    | nil => rfl
    | cons n c => simp only [still, List.map_cons, pullsF, tensF]; congr 1; exact ih _ _ _ _
theorem tensions_eq (l : Ln) (c : List Int) : tensions l c = tens l c := tensF_pulls _ _ _ _ _
theorem rSquare_any (t : Int × Int) (w : World) (h1 : -1000000 ≤ t.1 ∧ t.1 ≤ 1000000) (h2 : -1000000 ≤ t.2 ∧ t.2 ≤ 1000000) :
    Calls Try.prog 103 #[.agg #[.int .i64 t.1, .int .i64 t.2]] w fun e w' => e = .returned (.int .i64 (sq t)) ∧ Below w.heap.size w w' := by
  have m1 := mul_bd t.1 t.1 1000000 1000000 h1 h1
  have m2 := mul_bd t.2 t.2 1000000 1000000 h2 h2
  have hw1 : IntKind.i64.wrap (t.1 * t.1) = t.1 * t.1 := IntWalk.i64_in _ (by omega)
  have hw2 : IntKind.i64.wrap (t.2 * t.2) = t.2 * t.2 := IntWalk.i64_in _ (by omega)
  have hw3 : IntKind.i64.wrap (t.1 * t.1 + t.2 * t.2) = t.1 * t.1 + t.2 * t.2 := IntWalk.i64_in _ (by omega)
  have E : Hid (sq t = t.1 * t.1 + t.2 * t.2) := (rfl : sq t = _)
  obtain ⟨t1, t2⟩ := t
  simp only at *
  go_enter Try.func103, Try.ntmps103
  go_wp2_with fail
  go_ret
  exact ⟨ret_int E.out.symm, below_alloc1 _ _⟩
/-- The first of the strongest among the first k. -/
def strongK (ts : List (Int × Int)) (k : Nat) : Nat := (List.range k).foldl (fun m i => if sq (ts.getD m (0, 0)) < sq (ts.getD i (0, 0)) then i else m) 0
theorem strongK_succ (ts : List (Int × Int)) (k : Nat) : strongK ts (k + 1) = if sq (ts.getD (strongK ts k) (0, 0)) < sq (ts.getD k (0, 0)) then k else strongK ts k := by
  unfold strongK
  rw [List.range_succ, List.foldl_append]
  rfl
def strongestIn (l : Ln) (c : List Int) : Int × Int × Int :=
  if currentsErr l c = 0 then ((strongK (tensions l c) (tensions l c).length : Int), sq ((tensions l c).getD (strongK (tensions l c) (tensions l c).length) (0, 0)), 0) else (0, 0, currentsErr l c)
theorem ret_trip {q : Int × Int × Int} {a b c : Int} (h : q = (a, b, c)) : Ending.returned (.tuple #[.int .i64 a, .int .i64 b, .int .i64 c]) = .returned (.tuple #[.int .i64 q.1, .int .i64 q.2.1, .int .i64 q.2.2]) := by subst h; rfl
theorem tensions_small {l : Ln} {c : List Int} (h : currentsErr l c = 0) : 0 < (tensions l c).length ∧ (tensions l c).length ≤ 10 ∧ ∀ t ∈ tensions l c, (-1000000 ≤ t.1 ∧ t.1 ≤ 1000000) ∧ (-1000000 ≤ t.2 ∧ t.2 ≤ 1000000) := by
  obtain ⟨h3, h4⟩ := currentsErr_ok h
  have hl := lineErr_ok h3
  have hc := cursErr_cu h4
  rw [tensions_eq]
  refine ⟨by rw [tens_len _ _ hc.len]; exact hl.n0, by rw [tens_len _ _ hc.len]; exact hl.n1, fun t ht => ?_⟩
  have := tens_bd hl hc t ht
  omega
set_option maxRecDepth 100000 in
set_option maxHeartbeats 600000 in
theorem StrongestIn_any (v u : Value) (l : Ln) (cu : List Int) (w : World) (hs : Sl e3 3 w v l.ks) (hu : Sl e1 1 w u cu) (hbig : l.ks.length ≤ 1000) (hbig' : cu.length ≤ 1000) :
    Calls Try.prog 32 #[.agg #[.int .i64 l.x, .int .i64 l.z, v], u] w fun e w' => e = .returned (.tuple #[.int .i64 (strongestIn l cu).1, .int .i64 (strongestIn l cu).2.1, .int .i64 (strongestIn l cu).2.2]) ∧ Below w.heap.size w w' := by
  have HT := Lib.hid (TensionsOf_any v u l cu _ (hs.alloc (.cells #[.int .i64 l.x, .int .i64 l.z, v] 26)) (hu.alloc (.cells #[.int .i64 l.x, .int .i64 l.z, v] 26)) hbig hbig')
  obtain ⟨A, c, rfl, hcap⟩ := hs.form
  obtain ⟨A', c', rfl, hcap'⟩ := hu.form
  clear hs hu
  by_cases h1 : currentsErr l cu = 0
  · obtain ⟨hn0, hn1, hbd⟩ := tensions_small h1
    have E : Hid (strongestIn l cu = ((strongK (tensions l cu) (tensions l cu).length : Int), sq ((tensions l cu).getD (strongK (tensions l cu) (tensions l cu).length) (0, 0)), 0)) := if_pos h1
    have hte : tensionsOf l cu = (tensions l cu, 0) := if_pos h1
    rw [hte] at HT
    have HBD := Lib.hid hbd
    clear h1 hte hbd
    generalize tensions l cu = ts at *
    simp only at HT
    have hpos : (0 : Int) < (ts.length : Int) := by omega
    have HQ := Lib.hid (fun i (hi : i < ts.length) w => square_any ts[i] w (HBD.out _ (List.getElem_mem hi)).1 (HBD.out _ (List.getElem_mem hi)).2)
    go_enter Try.func32, Try.ntmps32
    go_wp2_with (first
      | (go_at_call 28; refine HT.out.mono ?_; rintro e w2 ⟨r, rfl, ho, hb2⟩; have HSB := Lib.hid (ho.sl e2_len); obtain ⟨Ab, ct, rfl, hct⟩ := HSB.out.form; obtain ⟨b0, o0, rfl, hb0, ca1, ca2⟩ := HSB.out.at2 hn0; have HB2 := Lib.hid (below_tr (below_alloc1 _ _) hb2); clear hb2 ho; rw [Nat.zero_mul, Nat.add_zero] at ca1 ca2; obtain ⟨q0, hq0⟩ : ∃ q, q = ts[0] := ⟨_, rfl⟩; rw [← hq0] at ca1 ca2; have HQ1 := HQ.out 0 hn0; rw [← hq0] at HQ1; have HQ0 := Lib.hid HQ1; have HS0 : Hid (sq (ts.getD 0 (0, 0)) = sq q0) := (by rw [getD_eq ts 0 (0, 0) hn0, hq0]; rfl); clear HQ1; obtain ⟨s1, s2⟩ := q0; simp only at ca1 ca2; clear hq0)
      | (go_at_call 102; refine (HQ0.out _).mono ?_; rintro e w3 ⟨rfl, hb3⟩; have HB3 := Lib.hid hb3; clear hb3))
    go_loopw [9, 10, 11, 12, 13, 29] (fun st gr _ _ _ i wr => ∃ k : Nat, k ≤ ts.length ∧ i = .int .i64 k ∧ st = .int .i64 (strongK ts k) ∧ gr = .int .i64 (sq (ts.getD (strongK ts k) (0, 0))) ∧ Below w2.heap.size w2 wr) (fun _ _ _ _ _ i _ => ts.length - (intOf i).toNat)
    case atStart => exact ⟨0, Nat.zero_le _, rfl, rfl, congrArg (Value.int .i64) HS0.out.symm, HB3.out⟩
    case round =>
      obtain ⟨k, hk, rfl, rfl, rfl, hb⟩ := hrel
      have HB := Lib.hid hb
      clear ca1 ca2
      by_cases hlt : k < ts.length
      · obtain ⟨b1, o1, e1', _, cb1, cb2⟩ := (HSB.out.below hb).at2 (k := k) hlt
        injection e1' with e1'
        injection e1' with e11 e12
        subst e11; subst e12
        have hsc := strongK_succ ts k
        have HK := Lib.hid (HQ.out k hlt)
        have HGK : Hid (sq (ts.getD k (0, 0)) = sq ts[k]) := by rw [getD_eq ts k (0, 0) hlt]; rfl
        rw [getD_eq ts k (0, 0) hlt] at hsc
        generalize ts[k] = t at *
        obtain ⟨t1, t2⟩ := t
        simp only at *
        generalize hsq : sq (t1, t2) = q at *
        have HSC := Lib.hid hsc
        clear hsc hb
        have HSQ := Lib.hid hsq
        generalize hgr : sq (ts.getD (strongK ts k) (0, 0)) = gr at *
        have HGR := Lib.hid hgr
        clear hgr hsq
        by_cases hq : gr < q
        · go_wp2_with (go_at_call 102; refine (HK.out _).mono ?_; rintro e w3 ⟨rfl, hb3⟩)
          go_roundw
          case rel =>
            have e5 : strongK ts (k + 1) = k := by rw [HSC.out, if_pos hq]
            refine ⟨k + 1, by omega, by go_num, by rw [e5], ?_, below_tr (below_al HB.out _) hb3⟩
            rw [e5, HGK.out]
          case measure => simp [intOf]; omega
        · go_wp2_with (go_at_call 102; refine (HK.out _).mono ?_; rintro e w3 ⟨rfl, hb3⟩)
          go_roundw
          case rel =>
            have e5 : strongK ts (k + 1) = strongK ts k := by rw [HSC.out, if_neg (by omega)]
            exact ⟨k + 1, by omega, by go_num, by rw [e5], by rw [e5, HGR.out], below_tr (below_al HB.out _) hb3⟩
          case measure => simp [intOf]; omega
      · clear hb
        obtain rfl : k = ts.length := by omega
        go_wp2_with fail
        (try simp only [Exit.inBlock, Exit.then])
        exact bodyPost_ret (v := .tuple #[.int .i64 (strongK ts ts.length), .int .i64 (sq (ts.getD (strongK ts ts.length) (0, 0))), .int .i64 0]) (by simp [results, Try.results32, go_sem]) rfl ⟨ret_trip E.out, below_tr HB2.out HB.out⟩
  · have E : Hid (strongestIn l cu = (0, 0, currentsErr l cu)) := if_neg h1
    have hte : tensionsOf l cu = ([], currentsErr l cu) := if_neg h1
    rw [hte] at HT
    have h1' := ne1 h1
    generalize currentsErr l cu = pe at *
    simp only at HT
    clear h1 hte
    go_enter Try.func32, Try.ntmps32
    go_wp2_with (go_at_call 28; refine HT.out.mono ?_; rintro e w2 ⟨r, rfl, ho, hb2⟩)
    (try simp only [Exit.inBlock, Exit.then])
    exact bodyPost_ret (v := .tuple #[.int .i64 0, .int .i64 0, .int .i64 pe]) (by simp [results, Try.results32, go_sem]) rfl ⟨ret_trip E.out, below_tr (below_alloc1 _ _) hb2⟩
set_option maxHeartbeats 400000 in
theorem rCurrentsErr_any (v u : Value) (l : Ln) (cu : List Int) (w : World) (hs : Sl e3 3 w v l.ks) (hu : Sl e1 1 w u cu) (hbig' : cu.length ≤ 1000) :
    Calls Try.prog 34 #[.agg #[.int .i64 l.x, .int .i64 l.z, v], u] w fun e w' => e = .returned (.int .i64 (cursErr l cu)) ∧ Below w.heap.size w w' := by
  obtain ⟨A, c, rfl, hcap⟩ := hs.form
  obtain ⟨A', c', rfl, hcap'⟩ := hu.form
  have HU := Lib.hid hu
  clear hs hu
  by_cases h2 : cu.length = l.ks.length
  · have E : Hid (cursErr l cu = szErr 50 (cu.drop 0)) := (if_pos h2).trans (cursErr_sz cu).symm
    have h2' := lenb h2
    clear h2
    go_enter Try.func34, Try.ntmps34
    go_wp2_with fail
    go_loopw [5] (fun i wr => ∃ k : Nat, k ≤ cu.length ∧ i = .int .i64 k ∧ szErr 50 (cu.drop k) = szErr 50 (cu.drop 0) ∧ Below w.heap.size w wr) (fun i _ => cu.length - (intOf i).toNat)
    case atStart => exact ⟨0, Nat.zero_le _, rfl, rfl, below_alloc1 _ _⟩
    case round =>
      obtain ⟨k, hk, rfl, hfb, hb⟩ := hrel
      have HF := Lib.hid hfb
      have HB := Lib.hid hb
      clear hfb
      by_cases hlt : k < cu.length
      · obtain ⟨b, off, rfl, hbl, hc0⟩ := (HU.out.below hb).at1 hlt
        have HD := Lib.hid (szErr_drop 50 cu k hlt)
        clear hb
        generalize cu[k] = y at *
        cases hy : inR 50 y
        · rw [hy] at HD
          go_wp2_with (go_at_call 97; refine (isCurrent_any _ _).mono ?_; rintro e w' ⟨rfl, rfl⟩)
          go_ret
          exact ⟨ret_int (by rw [E.out, ← HF.out, HD.out]; rfl), HB.out⟩
        · rw [hy] at HD
          go_wp2_with (go_at_call 97; refine (isCurrent_any _ _).mono ?_; rintro e w' ⟨rfl, rfl⟩)
          go_roundw
          case rel => exact ⟨k + 1, by omega, by go_num, by rw [← HF.out, HD.out]; rfl, HB.out⟩
          case measure => simp [intOf]; omega
      · clear hb
        obtain rfl : k = cu.length := by omega
        go_wp2_with fail
        go_ret
        exact ⟨ret_int (by rw [E.out, ← HF.out]; simp [szErr]), HB.out⟩
  · have E : Hid (cursErr l cu = 10) := if_neg h2
    have h2' := lenb' h2
    clear h2
    go_enter Try.func34, Try.ntmps34
    go_wp2_with fail
    go_ret
    exact ⟨ret_int E.out.symm, below_alloc1 _ _⟩
end Go.Proofs.Ytghglgaimhfedaa

namespace Go.Proofs.Ytghglgaimhfedaa
open Go.RowKit Go.Shelf
attribute [local go_sem] monoUpon_value monoUpon_skip monoUpon_enter

theorem ret_pairI {a b : Int} {q : Int × Int} (h : q = (a, b)) : Ending.returned (.tuple #[.int .i64 a, .int .i64 b]) = .returned (.tuple #[.int .i64 q.1, .int .i64 q.2]) := by subst h; rfl
theorem strongK_lt (ts : List (Int × Int)) (h : 0 < ts.length) : ∀ k, k ≤ ts.length → strongK ts k < ts.length
  | 0, _ => h
  | k + 1, hk => by
    rw [strongK_succ]
    split
    · omega
    · exact strongK_lt ts h k (by omega)
def strongR (l : Ln) (c : List Int) : Int × Int := ((strongK (tens l c) (tens l c).length : Int), sq ((tens l c).getD (strongK (tens l c) (tens l c).length) (0, 0)))
set_option maxRecDepth 100000 in
set_option maxHeartbeats 1000000 in
theorem Strongest_any (v u : Value) (l : Ln) (cu : List Int) (w : World) (hs : Sl e3 3 w v l.ks) (hu : Sl e1 1 w u cu) (hl : LnOk l) (hc : CuOk l cu) :
    Calls Try.prog 35 #[.agg #[.int .i64 l.x, .int .i64 l.z, v], u] w fun e w' => e = .returned (.tuple #[.int .i64 (strongR l cu).1, .int .i64 (strongR l cu).2]) ∧ Below w.heap.size w w' := by
  have HT := Lib.hid (Tensions_any v u l cu _ (hs.alloc (.cells #[.int .i64 l.x, .int .i64 l.z, v] 26)) (hu.alloc (.cells #[.int .i64 l.x, .int .i64 l.z, v] 26)) hl hc)
  obtain ⟨A, c, rfl, hcap⟩ := hs.form
  obtain ⟨A', c', rfl, hcap'⟩ := hu.form
  clear hs hu
  have hbd : ∀ t ∈ tens l cu, (-1000000 ≤ t.1 ∧ t.1 ≤ 1000000) ∧ (-1000000 ≤ t.2 ∧ t.2 ≤ 1000000) := fun t ht => by have := tens_bd hl hc t ht; omega
  have hn0 : 0 < (tens l cu).length := by rw [tens_len _ _ hc.len]; exact hl.n0
  have hn1 : (tens l cu).length ≤ 10 := by rw [tens_len _ _ hc.len]; exact hl.n1
  have E : Hid (strongR l cu = ((strongK (tens l cu) (tens l cu).length : Int), sq ((tens l cu).getD (strongK (tens l cu) (tens l cu).length) (0, 0)))) := (rfl : strongR l cu = _)
  have HBD := Lib.hid hbd
  clear hbd hl hc
  generalize tens l cu = ts at *
  have HQ := Lib.hid (fun i (hi : i < ts.length) w => rSquare_any ts[i] w (HBD.out _ (List.getElem_mem hi)).1 (HBD.out _ (List.getElem_mem hi)).2)
  go_enter Try.func35, Try.ntmps35
  go_wp2_with (go_at_call 38; refine HT.out.mono ?_; rintro e w2 ⟨r, rfl, ho, hb2⟩; have HSB := Lib.hid (ho.sl e2_len); obtain ⟨Ab, ct, rfl, hct⟩ := HSB.out.form; obtain ⟨bt, ot, rfl, hbt, _⟩ := HSB.out.raw (k := 0) hn0; have HB2 := Lib.hid (below_tr (below_alloc1 _ _) hb2); clear hb2 ho)
  go_loopw [7, 8] (fun st i wr => ∃ k : Nat, k ≤ ts.length ∧ i = .int .i64 k ∧ st = .int .i64 (strongK ts k) ∧ Below w2.heap.size w2 wr) (fun _ i _ => ts.length - (intOf i).toNat)
  case atStart => exact ⟨0, Nat.zero_le _, rfl, rfl, Below.refl _ _⟩
  case round =>
    obtain ⟨k, hk, rfl, rfl, hb⟩ := hrel
    have HB := Lib.hid hb
    have hm := strongK_lt ts hn0 k hk
    by_cases hlt : k < ts.length
    · have hsc := strongK_succ ts k
      rw [getD_eq ts k (0, 0) hlt, getD_eq ts _ (0, 0) hm] at hsc
      have HSC := Lib.hid hsc
      have HK1 := Lib.hid (HQ.out k hlt)
      have HK2 := Lib.hid (HQ.out _ hm)
      have HX : Hid (∀ W, Below wr.drew.heap.size wr.drew W → (W.cell? ⟨bt, ot + k * 2, none⟩ = some (.int .i64 ts[k].1) ∧ W.cell? ⟨bt, ot + k * 2 + 1, none⟩ = some (.int .i64 ts[k].2)) ∧ (W.cell? ⟨bt, ot + strongK ts k * 2, none⟩ = some (.int .i64 ts[strongK ts k].1) ∧ W.cell? ⟨bt, ot + strongK ts k * 2 + 1, none⟩ = some (.int .i64 ts[strongK ts k].2))) := by
        intro W hW
        have hs2 := (HSB.out.below HB.out).below (w' := W) (Below.trans (Below.drew (Below.refl _ _)) hW)
        obtain ⟨b0, o0, e0, _, ca1, ca2⟩ := hs2.at2 (k := k) hlt
        injection e0 with e0
        injection e0 with e01 e02
        subst e01; subst e02
        obtain ⟨b0, o0, e0, _, cb1, cb2⟩ := hs2.at2 (k := strongK ts k) hm
        injection e0 with e0
        injection e0 with e01 e02
        subst e01; subst e02
        exact ⟨⟨ca1, ca2⟩, cb1, cb2⟩
      have hmz : (strongK ts k : Int) < (ts.length : Int) := by omega
      have hm0 : (0 : Int) ≤ (strongK ts k : Int) := by omega
      clear hsc hb
      generalize ts[k] = ta at *
      generalize ts[strongK ts k] = tb' at *
      generalize hmm : strongK ts k = m at *
      have HMM := Lib.hid hmm
      clear hmm
      obtain ⟨a1, a2⟩ := ta
      obtain ⟨b1, b2⟩ := tb'
      simp only at *
      generalize sq (a1, a2) = qa at *
      generalize sq (b1, b2) = qb at *
      go_wp2_with fail
      refine wp_region_mono 10 [18, 19, 20, 21, 22, 23, 24, 25, 26, 27] [[], [], [0, 1], [2], [3], [], [], [5, 6], [7], [8]] [fun v _ => v = .slice (some ⟨bt, ot, none⟩) ts.length ct, fun v _ => v = .int .i64 k, fun v _ => v = .pointer (some ⟨bt, ot + k * 2, none⟩), fun v _ => v = .agg #[.int .i64 a1, .int .i64 a2], fun v _ => v = .int .i64 qa, fun v _ => v = .slice (some ⟨bt, ot, none⟩) ts.length ct, fun v _ => v = .int .i64 m, fun v _ => v = .pointer (some ⟨bt, ot + m * 2, none⟩), fun v _ => v = .agg #[.int .i64 b1, .int .i64 b2], fun v _ => v = .int .i64 qb] (by kernel_rfl) (by kernel_rfl) ⟨st_eq _, st_eq _, st_eq _, st_eq _, st_eq _, st_eq _, st_eq _, st_eq _, st_eq _, st_eq _, trivial⟩ ?_ ?_
      · simp only [List.take_succ_cons, List.take_zero, steps, and_true]
        refine ⟨?_, ?_, ?_, ?_, ?_, ?_, ?_, ?_, ?_, ?_⟩
        · intro x W hB _; simp only [putX, setX, List.foldl_cons, List.foldl_nil]; refine ⟨?_⟩; go_simp; exact ⟨rfl, Below.refl _ _⟩
        · intro x W hB _; simp only [putX, setX, List.foldl_cons, List.foldl_nil]; refine ⟨?_⟩; go_simp; exact ⟨rfl, Below.refl _ _⟩
        · intro x W hB hN; simp only [needs, sAt, dAt] at hN; simp only [putX, setX, List.foldl_cons, List.foldl_nil]; refine ⟨?_⟩; go_simp; exact ⟨rfl, Below.refl _ _⟩
        · intro x W hB hN; simp only [needs, sAt, dAt] at hN; simp only [putX, setX, List.foldl_cons, List.foldl_nil]; obtain ⟨⟨c0, c1⟩, c2, c3⟩ := HX.out W hB; refine ⟨?_⟩; go_simp; exact ⟨rfl, Below.refl _ _⟩
        · intro x W hB hN; simp only [needs, sAt, dAt] at hN; simp only [putX, setX, List.foldl_cons, List.foldl_nil]; refine ⟨?_⟩; go_simp; refine (HK1.out _).mono ?_; rintro e w' ⟨rfl, hb⟩; exact ⟨_, rfl, rfl, hb⟩
        · intro x W hB _; simp only [putX, setX, List.foldl_cons, List.foldl_nil]; refine ⟨?_⟩; go_simp; exact ⟨rfl, Below.refl _ _⟩
        · intro x W hB _; simp only [putX, setX, List.foldl_cons, List.foldl_nil]; refine ⟨?_⟩; go_simp; exact ⟨rfl, Below.refl _ _⟩
        · intro x W hB hN; simp only [needs, sAt, dAt] at hN; simp only [putX, setX, List.foldl_cons, List.foldl_nil]; refine ⟨?_⟩; go_simp; exact ⟨rfl, Below.refl _ _⟩
        · intro x W hB hN; simp only [needs, sAt, dAt] at hN; simp only [putX, setX, List.foldl_cons, List.foldl_nil]; obtain ⟨⟨c0, c1⟩, c2, c3⟩ := HX.out W hB; refine ⟨?_⟩; go_simp; exact ⟨rfl, Below.refl _ _⟩
        · intro x W hB hN; simp only [needs, sAt, dAt] at hN; simp only [putX, setX, List.foldl_cons, List.foldl_nil]; refine ⟨?_⟩; go_simp; refine (HK2.out _).mono ?_; rintro e w' ⟨rfl, hb⟩; exact ⟨_, rfl, rfl, hb⟩
      · intro x W hB hA
        simp only [allSp] at hA
        have q1 := hA.2.2.2.2.1
        have q2 := hA.2.2.2.2.2.2.2.2.2.1
        have HBW : Hid (Below w2.heap.size w2 W) := below_tr HB.out (Below.trans (Below.drew (Below.refl _ _)) hB)
        clear hA hB
        simp only [putX, setX, List.foldl_cons, List.foldl_nil, List.drop_succ_cons, List.drop_zero, q1, q2, List.setIfInBounds_toArray, List.set_cons_succ, List.set_cons_zero]
        clear q1 q2
        by_cases hq : qb < qa
        · go_wp2_with fail
          go_roundw
          case rel => exact ⟨k + 1, by omega, by go_num, by rw [HSC.out, if_pos hq], HBW.out⟩
          case measure => simp [intOf]; omega
        · go_wp2_with fail
          go_roundw
          case rel => exact ⟨k + 1, by omega, by go_num, by rw [HSC.out, if_neg (by omega)], HBW.out⟩
          case measure => simp [intOf]; omega
    · clear hb
      obtain rfl : k = ts.length := by omega
      obtain ⟨b0, o0, e0, _, ca1, ca2⟩ := (HSB.out.below HB.out).at2 (k := strongK ts ts.length) hm
      injection e0 with e0
      injection e0 with e01 e02
      subst e01; subst e02
      have HK2 := Lib.hid (HQ.out _ hm)
      have hge : Hid (sq (ts.getD (strongK ts ts.length) (0, 0)) = sq ts[strongK ts ts.length]) := by rw [getD_eq ts _ (0, 0) hm]; rfl
      have hmz : (strongK ts ts.length : Int) < (ts.length : Int) := by omega
      have hm0 : (0 : Int) ≤ (strongK ts ts.length : Int) := by omega
      have E2 : Hid (strongR l cu = ((strongK ts ts.length : Int), sq ts[strongK ts ts.length])) := by rw [E.out, hge.out]; rfl
      clear E hge
      generalize ts[strongK ts ts.length] = tb' at *
      generalize strongK ts ts.length = m at *
      obtain ⟨b1, b2⟩ := tb'
      simp only at *
      generalize sq (b1, b2) = qb at *
      go_wp2_with (go_at_call 103; refine (HK2.out _).mono ?_; rintro e w3 ⟨rfl, hb3⟩)
      go_ret2
      exact ⟨ret_pairI E2.out, below_tr (below_tr HB2.out HB.out) hb3⟩
end Go.Proofs.Ytghglgaimhfedaa

namespace Go.Proofs.Ytghglgaimhfedaa
open Go.RowKit Go.Shelf
attribute [local go_sem] monoUpon_value monoUpon_skip monoUpon_enter

/-- The index of the first tension that is not the wanted one, and the error. -/
def balF : List (Int × Int) → List (Int × Int) → Nat → Int × Int
  | x :: xs, y :: ys, i => if x = y then balF xs ys (i + 1) else ((i : Int), 19)
  | _, _, _ => (0, 0)
theorem balF_drop (xs ys : List (Int × Int)) (k : Nat) (h : k < xs.length) (h' : k < ys.length) : balF (xs.drop k) (ys.drop k) k = if xs[k] = ys[k] then balF (xs.drop (k + 1)) (ys.drop (k + 1)) (k + 1) else ((k : Int), 19) := by
  rw [List.drop_eq_getElem_cons h, List.drop_eq_getElem_cons h', balF]
def balErr (l : Ln) (c : List Int) (t : List (Int × Int)) : Int × Int := if t.length = l.ks.length then balF t (tens l c) 0 else (0, 10)
set_option maxRecDepth 100000 in
set_option maxHeartbeats 1000000 in
theorem BalanceErr_any (v u x : Value) (l : Ln) (cu : List Int) (t : List (Int × Int)) (w : World) (hs : Sl e3 3 w v l.ks) (hu : Sl e1 1 w u cu) (hx : Sl e2 2 w x t) (hl : LnOk l) (hc : CuOk l cu) (ht : t.length ≤ 1000) :
    Calls Try.prog 36 #[.agg #[.int .i64 l.x, .int .i64 l.z, v], u, x] w fun e w' => e = .returned (.tuple #[.int .i64 (balErr l cu t).1, .int .i64 (balErr l cu t).2]) ∧ Below w.heap.size w w' := by
  have HT := Lib.hid (Tensions_any v u l cu _ (hs.alloc (.cells #[.int .i64 l.x, .int .i64 l.z, v] 26)) (hu.alloc (.cells #[.int .i64 l.x, .int .i64 l.z, v] 26)) hl hc)
  have HTX := Lib.hid (hx.alloc (.cells #[.int .i64 l.x, .int .i64 l.z, v] 26))
  obtain ⟨A, c, rfl, hcap⟩ := hs.form
  obtain ⟨A', c', rfl, hcap'⟩ := hu.form
  obtain ⟨A'', c'', rfl, hcap''⟩ := hx.form
  have hn0 : 0 < (tens l cu).length := by rw [tens_len _ _ hc.len]; exact hl.n0
  have hlen : (tens l cu).length = l.ks.length := tens_len _ _ hc.len
  clear hs hu hx hc
  have hn1 := hl.n1
  clear hl
  by_cases h1 : t.length = l.ks.length
  · have E : Hid (balErr l cu t = balF (t.drop 0) ((tens l cu).drop 0) 0) := if_pos h1
    have h1' := lenb h1
    rw [← h1] at hlen
    generalize tens l cu = ts at *
    have hq := neq_force
    go_enter Try.func36, Try.ntmps36
    go_wp2_with (go_at_call 38; refine HT.out.mono ?_; rintro e w2 ⟨r, rfl, ho, hb2⟩; have HSB := Lib.hid (ho.sl e2_len); obtain ⟨Ab, ct, rfl, hct⟩ := HSB.out.form; obtain ⟨bt, ot, rfl, hbt, _⟩ := HSB.out.raw (k := 0) hn0; have HXB := Lib.hid (HTX.out.below hb2); have HB2 := Lib.hid (below_tr (below_alloc1 _ _) hb2); clear hb2 ho)
    clear h1'
    go_loopw [9] (fun i wr => ∃ k : Nat, k ≤ t.length ∧ i = .int .i64 k ∧ balF (t.drop k) (ts.drop k) k = balF (t.drop 0) (ts.drop 0) 0 ∧ Below w2.heap.size w2 wr) (fun i _ => t.length - (intOf i).toNat)
    case atStart => exact ⟨0, Nat.zero_le _, rfl, rfl, Below.refl _ _⟩
    case round =>
      obtain ⟨k, hk, rfl, hfb, hb⟩ := hrel
      have HF := Lib.hid hfb
      have HB := Lib.hid hb
      clear hfb
      by_cases hlt : k < t.length
      · have hlt2 : k < ts.length := by omega
        have HD := Lib.hid (balF_drop t ts k hlt hlt2)
        obtain ⟨bx, ox, rfl, hbx, _⟩ := HXB.out.raw (k := k) hlt
        have HX : Hid (∀ W, Below wr.drew.heap.size wr.drew W → (W.cell? ⟨bx, ox + k * 2, none⟩ = some (.int .i64 t[k].1) ∧ W.cell? ⟨bx, ox + k * 2 + 1, none⟩ = some (.int .i64 t[k].2)) ∧ (W.cell? ⟨bt, ot + k * 2, none⟩ = some (.int .i64 ts[k].1) ∧ W.cell? ⟨bt, ot + k * 2 + 1, none⟩ = some (.int .i64 ts[k].2))) := by
          intro W hW
          have hb' : Below wr.heap.size wr W := Below.trans (Below.drew (Below.refl _ _)) hW
          obtain ⟨b0, o0, e0, _, ca1, ca2⟩ := ((HXB.out.below HB.out).below hb').at2 (k := k) hlt
          injection e0 with e0
          injection e0 with e01 e02
          subst e01; subst e02
          obtain ⟨b0, o0, e0, _, cb1, cb2⟩ := ((HSB.out.below HB.out).below hb').at2 (k := k) hlt2
          injection e0 with e0
          injection e0 with e01 e02
          subst e01; subst e02
          exact ⟨⟨ca1, ca2⟩, cb1, cb2⟩
        have hkz : (k : Int) < (ts.length : Int) := by omega
        clear hb
        generalize t[k] = ta at *
        generalize ts[k] = tb' at *
        obtain ⟨a1, a2⟩ := ta
        obtain ⟨b1, b2⟩ := tb'
        simp only at *
        go_wp2_with fail
        refine wp_region_mono 8 [25, 26, 27, 28, 29, 30, 31, 32] [[], [], [0, 1], [2], [], [], [4, 5], [6]] [fun v _ => v = .slice (some ⟨bx, ox, none⟩) t.length c'', fun v _ => v = .int .i64 k, fun v _ => v = .pointer (some ⟨bx, ox + k * 2, none⟩), fun v _ => v = .agg #[.int .i64 a1, .int .i64 a2], fun v _ => v = .slice (some ⟨bt, ot, none⟩) ts.length ct, fun v _ => v = .int .i64 k, fun v _ => v = .pointer (some ⟨bt, ot + k * 2, none⟩), fun v _ => v = .agg #[.int .i64 b1, .int .i64 b2]] (by kernel_rfl) (by kernel_rfl) ⟨st_eq _, st_eq _, st_eq _, st_eq _, st_eq _, st_eq _, st_eq _, st_eq _, trivial⟩ ?_ ?_
        · simp only [List.take_succ_cons, List.take_zero, steps, and_true]
          refine ⟨?_, ?_, ?_, ?_, ?_, ?_, ?_, ?_⟩
          · intro x W hB _; simp only [putX, setX, List.foldl_cons, List.foldl_nil]; refine ⟨?_⟩; go_simp; exact ⟨rfl, Below.refl _ _⟩
          · intro x W hB _; simp only [putX, setX, List.foldl_cons, List.foldl_nil]; refine ⟨?_⟩; go_simp; exact ⟨rfl, Below.refl _ _⟩
          · intro x W hB hN; simp only [needs, sAt, dAt] at hN; simp only [putX, setX, List.foldl_cons, List.foldl_nil]; refine ⟨?_⟩; go_simp; exact ⟨rfl, Below.refl _ _⟩
          · intro x W hB hN; simp only [needs, sAt, dAt] at hN; simp only [putX, setX, List.foldl_cons, List.foldl_nil]; obtain ⟨⟨c0, c1⟩, c2, c3⟩ := HX.out W hB; refine ⟨?_⟩; go_simp; exact ⟨rfl, Below.refl _ _⟩
          · intro x W hB _; simp only [putX, setX, List.foldl_cons, List.foldl_nil]; refine ⟨?_⟩; go_simp; exact ⟨rfl, Below.refl _ _⟩
          · intro x W hB _; simp only [putX, setX, List.foldl_cons, List.foldl_nil]; refine ⟨?_⟩; go_simp; exact ⟨rfl, Below.refl _ _⟩
          · intro x W hB hN; simp only [needs, sAt, dAt] at hN; simp only [putX, setX, List.foldl_cons, List.foldl_nil]; refine ⟨?_⟩; go_simp; exact ⟨rfl, Below.refl _ _⟩
          · intro x W hB hN; simp only [needs, sAt, dAt] at hN; simp only [putX, setX, List.foldl_cons, List.foldl_nil]; obtain ⟨⟨c0, c1⟩, c2, c3⟩ := HX.out W hB; refine ⟨?_⟩; go_simp; exact ⟨rfl, Below.refl _ _⟩
        · intro x W hB hA
          simp only [allSp] at hA
          have q1 := hA.2.2.2.1
          have q2 := hA.2.2.2.2.2.2.2.1
          have HBW : Hid (Below w2.heap.size w2 W) := below_tr HB.out (Below.trans (Below.drew (Below.refl _ _)) hB)
          clear hA hB
          simp only [putX, setX, List.foldl_cons, List.foldl_nil, List.drop_succ_cons, List.drop_zero, q1, q2, List.setIfInBounds_toArray, List.set_cons_succ, List.set_cons_zero]
          clear q1 q2
          by_cases he : ((a1, a2) : Int × Int) = (b1, b2)
          · have hp := pne0 he
            simp only at hp
            go_wp2_with fail
            go_roundw
            case rel => exact ⟨k + 1, by omega, by go_num, by rw [← HF.out, HD.out, if_pos he], HBW.out⟩
            case measure => simp [intOf]; omega
          · have hp := pne1 he
            simp only at hp
            go_wp2_with fail
            go_ret2
            exact ⟨ret_pairI (by rw [E.out, ← HF.out, HD.out, if_neg he]), below_tr HB2.out HBW.out⟩
      · clear hb
        obtain rfl : k = t.length := by omega
        have hfin : balF (t.drop t.length) (ts.drop t.length) t.length = (0, 0) := by rw [List.drop_of_length_le (Nat.le_refl _)]; rfl
        have HFF := Lib.hid hfin
        clear hfin
        go_wp2_with fail
        go_ret2
        exact ⟨ret_pairI (by rw [E.out, ← HF.out, HFF.out]), below_tr HB2.out HB.out⟩
  · have E : Hid (balErr l cu t = (0, 10)) := if_neg h1
    have h1' := lenb' h1
    clear h1
    go_enter Try.func36, Try.ntmps36
    go_wp2_with fail
    go_ret2
    exact ⟨ret_pairI E.out, below_alloc1 _ _⟩
end Go.Proofs.Ytghglgaimhfedaa

namespace Go.Proofs.Ytghglgaimhfedaa
open Go.RowKit Go.Shelf
attribute [local go_sem] monoUpon_value monoUpon_skip monoUpon_enter

set_option maxRecDepth 100000 in
theorem append_links (w : World) (i : TypeInfo) (hi : Try.prog.info? 63 = some i) (hz : i.zero = some (.agg #[.int .i64 0, .int .i64 0, .int .i64 0])) (hsize : i.size = 3) (hby : i.bytes = 24)
    (ty : TypeId) (g : Nat) (A : Option Addr) (m c : Nat) (ys : List Lk) (hr : Sl e3 3 w (.slice A m c) ys) (hbig : ys.length ≤ 1000) :
    ∃ v' w', (Builtin.append_ #[24, 24] ty #[.slice (some ⟨g, 0, none⟩) 0 0, .slice A m c]).run Try.prog w = .ok v' w' ∧ (Sl e3 3 w' v' ys ∧ (ys ≠ [] → ∀ b, v'.ownBlock = some b → w.heap.size ≤ b)) ∧ Below w.heap.size w w' := by
  have hm : m = ys.length := by
    obtain ⟨A', c', e, _⟩ := hr.form
    injection e
  by_cases h0 : ys = []
  · subst h0
    simp at hm
    subst hm
    refine ⟨.slice (some ⟨g, 0, none⟩) 0 0, w, ?_, ⟨⟨_, _, rfl, Nat.le_refl _, fun h => absurd rfl h⟩, fun h => absurd rfl h⟩, Below.refl _ _⟩
    rcases A with _ | ad
    · simp [Builtin.append_, run_underlying Try.underlying24, sizeOf, typeInfo, hi, Builtin.lenOf, Builtin.firstCells, storeCells]
    · simp [Builtin.append_, run_underlying Try.underlying24, sizeOf, typeInfo, hi, Builtin.lenOf, Builtin.firstCells, loadCells, loadCellsFrom, storeCells]
  · have hpos : 0 < ys.length := List.length_pos_iff.2 h0
    obtain ⟨b, off, hA, hb, _⟩ := hr.raw (k := 0) hpos
    subst hA
    subst hm
    have hl : (ys.flatMap e3).length = ys.length * 3 := flat_len e3 3 e3_len ys
    have hr2 := run_append_grow (P := Try.prog) (w := w) 24 ty 63 i _ Try.underlying24 hi hz ⟨g, 0, none⟩ 0 0 [] (by simp) (by intro j v hv; simp at hv) ⟨b, off, none⟩ ys.length c (ys.flatMap e3) (by rw [hsize]; exact hl) (by
      intro j u hu
      have hj : j < ys.length * 3 := by
        have := (List.getElem?_eq_some_iff.1 hu).1
        rwa [hl] at this
      have hdiv : j / 3 < ys.length := Nat.div_lt_of_lt_mul (by omega)
      have hmod : j % 3 < 3 := Nat.mod_lt _ (by omega)
      obtain ⟨b', off', e', _, hc⟩ := hr.raw hdiv
      injection e' with e'
      injection e' with e1' e2'
      subst e1'; subst e2'
      have h := hc _ hmod
      rw [← flat_at e3 3 e3_len ys _ hdiv _ hmod, Nat.add_assoc, Nat.mul_comm (j / 3), Nat.div_add_mod] at h
      rw [Go.WideShapes.add_plain, h, hu]) (by omega) (by omega) (by rw [hby]; exact growslice_fits_wide (by omega) (by omega))
    have hge := grownCap_ge w (0 + ys.length) 0 63
    refine ⟨_, _, hr2, ⟨⟨some ⟨w.heap.size, 0, none⟩, grownCap w (0 + ys.length) 0 63, by simp, by omega, fun _ => ⟨w.heap.size, 0, rfl, by simp, fun k hk j hj => ?_⟩⟩, fun _ b hb => by simp [Value.ownBlock] at hb; omega⟩, (Below.drew (Below.refl _ _)).alloc (Nat.le_refl _) _⟩
    have hbk : (w.drew.alloc (.cells ((#[] : Array Value) ++ (ys.flatMap e3).toArray ++ Builtin.zeroCells (Value.agg #[.int .i64 0, .int .i64 0, .int .i64 0]).cells (grownCap w (0 + ys.length) 0 63 - (0 + ys.length))) 63)).heap[w.heap.size]? = some (.cells ((#[] : Array Value) ++ (ys.flatMap e3).toArray ++ Builtin.zeroCells (Value.agg #[.int .i64 0, .int .i64 0, .int .i64 0]).cells (grownCap w (0 + ys.length) 0 63 - (0 + ys.length))) 63 (0, 0)) := heap_alloc_new w.drew _
    rw [← flat_at e3 3 e3_len ys k hk j hj]
    refine (cell_of_row _ _ _ _ _ _ hbk).trans ?_
    have hlt : k * 3 + j < (ys.flatMap e3).length := by rw [hl]; omega
    simp only [Nat.zero_add, Array.empty_append]
    rw [Array.getElem?_append_left (by simpa using hlt)]
    simp
theorem mono_append {P : Program} {o : Oper} {a : Act} {w w' : World} {R : Value → World → Prop} {s x : Operand} {t : TypeId} {vs vx v' : Value} (ho : o.op = .call { callee := .builtin .append, args := #[s, x], argTypes := #[t, t] })
    (hs : a.eval s = vs) (hx : a.eval x = vx) (hrun : (Builtin.append_ #[t, t] o.type #[vs, vx]).run P w = .ok v' w') (h : R v' w') : mono P o a w R := by
  refine ⟨?_⟩
  unfold execOp
  simp only [ho, resolve, invoke, builtin, Sem.run_bind, Sem.run_pure, Result.andThen_ok, List.map_toArray, List.map_cons, List.map_nil, hs, hx, hrun]
  exact h
set_option maxRecDepth 100000 in
set_option maxHeartbeats 1000000 in
theorem CopyLine_any (v : Value) (l : Ln) (w : World) (hs : Sl e3 3 w v l.ks) (hbig : l.ks.length ≤ 1000) :
    Calls Try.prog 17 #[.agg #[.int .i64 l.x, .int .i64 l.z, v]] w fun e w' => ∃ r, e = .returned (.agg #[.int .i64 l.x, .int .i64 l.z, r]) ∧ Sl e3 3 w' r l.ks ∧ Below w.heap.size w w' := by
  obtain ⟨i0, hi, hz0, hz1, hz2⟩ := info_parts linkinfo
  obtain ⟨A, c, rfl, hcap⟩ := hs.form
  have HS := Lib.hid hs
  have HAP := Lib.hid (fun w ty g (h : Sl e3 3 w (.slice A l.ks.length c) l.ks) => append_links w i0 hi hz0 hz1 hz2 ty g A l.ks.length c l.ks h hbig)
  clear hs
  obtain ⟨x, z, ks⟩ := l
  simp only at *
  go_enter Try.func17, Try.ntmps17
  go_wp2_with fail
  obtain ⟨W0, hW0⟩ : ∃ W0, W0 = (w.alloc (.cells #[.int .i64 x, .int .i64 z, .slice A ks.length c] 26)).alloc (.cells #[.int .i64 0, .int .i64 0, .slice none 0 0] 26) := ⟨_, rfl⟩
  rw [← hW0]
  have HB0 : Hid (Below w.heap.size w W0) := by rw [hW0]; exact below_al (below_alloc1 _ _) _
  have HX : Hid (∀ W, Below W0.drew.heap.size W0.drew W → (At W ⟨w.heap.size, 0, none⟩ (.int .i64 x) ∧ At W ⟨w.heap.size, 1, none⟩ (.int .i64 z) ∧ At W ⟨w.heap.size, 2, none⟩ (.slice A ks.length c)) ∧
      (At W ⟨w.heap.size + 1, 0, none⟩ (.int .i64 0) ∧ At W ⟨w.heap.size + 1, 1, none⟩ (.int .i64 0) ∧ At W ⟨w.heap.size + 1, 2, none⟩ (.slice none 0 0)) ∧ Sl e3 3 W (.slice A ks.length c) ks ∧ Below w.heap.size w W) := by
    intro W h
    have hb : Below w.heap.size w W := below_tr HB0.out (Below.trans (Below.drew (Below.refl _ _)) h)
    rw [hW0] at h
    obtain ⟨bx, by'⟩ := box2 w #[.int .i64 x, .int .i64 z, .slice A ks.length c] #[.int .i64 0, .int .i64 0, .slice none 0 0] 26 26
    exact ⟨⟨(bx 0 _ rfl).drew.below h, (bx 1 _ rfl).drew.below h, (bx 2 _ rfl).drew.below h⟩, ⟨(by' 0 _ rfl).drew.below h, (by' 1 _ rfl).drew.below h, (by' 2 _ rfl).drew.below h⟩, HS.out.below hb, hb⟩
  have hz0 : w.heap.size + 2 = W0.heap.size := by rw [hW0]; simp
  clear hW0
  refine wp_region_mono 6 [3, 4, 5, 6, 7, 8] [[], [0], [], [], [3], [2, 4]] [fun v _ => v = .pointer (some ⟨w.heap.size, 0, none⟩), fun v _ => v = .agg #[.int .i64 x, .int .i64 z], fun v w => ∃ g, v = .slice (some ⟨g, 0, none⟩) 0 0, fun v _ => v = .pointer (some ⟨w.heap.size, 2, none⟩), fun v _ => v = .slice A ks.length c, fun v w => (Sl e3 3 w v ks ∧ (ks ≠ [] → ∀ b, v.ownBlock = some b → W0.heap.size ≤ b))] (by kernel_rfl) (by kernel_rfl) ⟨st_eq _, st_eq _, st_pure _, st_eq _, st_eq _, (fun _ _ _ h hb => ⟨h.1.below hb, h.2⟩), trivial⟩ ?_ ?_
  · simp only [List.take_succ_cons, List.take_zero, steps, and_true]
    refine ⟨?_, ?_, ?_, ?_, ?_, ?_⟩
    · intro x W hB _; simp only [putX, setX, List.foldl_cons, List.foldl_nil]; refine ⟨?_⟩; go_simp; exact ⟨rfl, Below.refl _ _⟩
    · intro x W hB hN; simp only [needs, sAt, dAt] at hN; simp only [putX, setX, List.foldl_cons, List.foldl_nil]; obtain ⟨⟨⟨c0, _⟩, ⟨c1, _⟩, ⟨c2, _⟩⟩, _⟩ := HX.out W hB; refine ⟨?_⟩; go_simp; exact ⟨rfl, Below.refl _ _⟩
    · intro x W hB _; simp only [putX, setX, List.foldl_cons, List.foldl_nil]; refine ⟨?_⟩; go_simp; exact ⟨⟨_, rfl⟩, below_alloc1 _ _⟩
    · intro x W hB _; simp only [putX, setX, List.foldl_cons, List.foldl_nil]; refine ⟨?_⟩; go_simp; exact ⟨rfl, Below.refl _ _⟩
    · intro x W hB hN; simp only [needs, sAt, dAt] at hN; simp only [putX, setX, List.foldl_cons, List.foldl_nil]; obtain ⟨⟨⟨c0, _⟩, ⟨c1, _⟩, ⟨c2, _⟩⟩, _⟩ := HX.out W hB; refine ⟨?_⟩; go_simp; exact ⟨rfl, Below.refl _ _⟩
    · intro x W hB hN; simp only [needs, sAt, dAt] at hN; simp only [putX, setX, List.foldl_cons, List.foldl_nil]; obtain ⟨⟨g, hg⟩, h7, _⟩ := hN; obtain ⟨v', w', hrun, hsl, hbw⟩ := HAP.out W 24 g (HX.out W hB).2.2.1; exact mono_append rfl (by go_simp) (by go_simp) hrun ⟨⟨hsl.1, fun h b hb' => Nat.le_trans hB.size (hsl.2 h b hb')⟩, hbw⟩
  · intro y W hB hA
    simp only [allSp] at hA
    have q1 := hA.2.1
    have q2 := hA.2.2.2.2.2.1
    obtain ⟨q2, qb⟩ := q2
    obtain ⟨Ar, cr, e8, _⟩ := q2.form
    rw [e8] at q2 qb
    have HA := Lib.hid (HX.out W hB)
    obtain ⟨_, ⟨⟨d0, f0⟩, ⟨d1, f1⟩, ⟨d2, f2⟩⟩, _, _⟩ := HX.out W hB
    clear hA hB
    simp only [putX, setX, List.foldl_cons, List.foldl_nil, List.drop_succ_cons, List.drop_zero, q1, e8, List.setIfInBounds_toArray, List.set_cons_succ, List.set_cons_zero]
    clear q1
    go_wp2_with fail
    obtain ⟨W5, hW5⟩ : ∃ W5, W5 = (((W.setCell ⟨w.heap.size + 1, 0, none⟩ (.int .i64 x)).setCell ⟨w.heap.size + 1, 1, none⟩ (.int .i64 z)).setCell ⟨w.heap.size + 1, 2, none⟩ (.slice Ar ks.length cr)) := ⟨_, rfl⟩
    rw [← hW5]
    obtain ⟨s0, _⟩ : At W5 ⟨w.heap.size + 1, 0, none⟩ (.int .i64 x) := by rw [hW5]; exact ((HA.out.2.1.1.set).other (by simp)).other (by simp)
    obtain ⟨s1, _⟩ : At W5 ⟨w.heap.size + 1, 1, none⟩ (.int .i64 z) := by rw [hW5]; exact ((HA.out.2.1.2.1.other (by simp)).set).other (by simp)
    obtain ⟨s2, _⟩ : At W5 ⟨w.heap.size + 1, 2, none⟩ (.slice Ar ks.length cr) := by rw [hW5]; exact ((HA.out.2.1.2.2.other (by simp)).other (by simp)).set
    have HB5 : Below w.heap.size w W5 := by rw [hW5]; exact below_set (below_set (below_set HA.out.2.2.2 (by show w.heap.size ≤ w.heap.size + 1; omega) _) (by show w.heap.size ≤ w.heap.size + 1; omega) _) (by show w.heap.size ≤ w.heap.size + 1; omega) _
    have HS5 : Sl e3 3 W5 (.slice Ar ks.length cr) ks := by
      rw [hW5]
      by_cases hk : ks = []
      · exact ⟨_, _, rfl, by obtain ⟨_, _, h1, h2, _⟩ := q2; injection h1, fun h => absurd hk h⟩
      · have hne : ∀ b, (Value.slice Ar ks.length cr).ownBlock = some b → b ≠ w.heap.size + 1 := fun b hb e => by have := qb hk b hb; have := hz0; omega
        have st : ∀ {X : World} {u : Value} {o : Nat}, Sl e3 3 X (.slice Ar ks.length cr) ks → Sl e3 3 (X.setCell ⟨w.heap.size + 1, o, none⟩ u) (.slice Ar ks.length cr) ks := fun h =>
          Sl.kpt (S := fun b => b ≠ w.heap.size + 1) h ⟨by simp, fun i hi _ => Below.heap_setCell _ _ _ i hi⟩ hne
        exact st (st (st q2))
    clear hW5
    (try simp only [Exit.inBlock, Exit.then])
    refine bodyPost_ret (v := .agg #[.int .i64 x, .int .i64 z, .slice Ar ks.length cr]) ?_ rfl ⟨_, rfl, HS5, HB5⟩
    rw [results_cell rfl]
    go_simp
end Go.Proofs.Ytghglgaimhfedaa
