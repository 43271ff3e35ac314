/-
  Walks of the reference's lines: tensions, heights, slack, the least load.
-/
import Derived.Test.YtekinmafdhgmpaaQI
import Derived.Test.YtekinmafdhgmpaaQH
import Derived.StillTailTactics
import Derived.Test.YtekinmafdhgmpaaQJ
import Derived.Deep.DeepAppendWide
namespace Go.Proofs.Ytekinmafdhgmpaa
open Go.RowKit Go.Shelf

theorem forceinfo : (Try.prog.info? 23).map (fun i => (i.zero, i.size, i.bytes)) = some (some (.agg #[.int .i64 0, .int .i64 0]), 2, 16) := by kernel_rfl

/-- Tensions one after another, out of currents. -/
def tensF (x z : Int) : List Lk → List Int → List (Int × Int)
  | k :: ks, n :: c => (x + k.2.2 * n, z + k.2.1) :: tensF (x + k.2.2 * n) (z + k.2.1) ks c
  | _, _ => []
def tens (l : Ln) (c : List Int) : List (Int × Int) := tensF l.x l.z l.ks c
/-- The tension below the link k. -/
def tb (l : Ln) (c : List Int) (k : Nat) : Int × Int := ((l.x, l.z) :: tens l c).getD k (0, 0)
theorem tensF_len (x z : Int) (ks : List Lk) (c : List Int) (h : c.length = ks.length) : (tensF x z ks c).length = ks.length := by
  induction ks generalizing x z c with
  | nil => cases c <;> rfl
  | cons k r ih =>
    cases c with
    | nil => simp at h
    | cons n c => simp [tensF, ih _ _ c (by simpa using h)]
theorem tensF_at (x z : Int) (ks : List Lk) (c : List Int) (h : c.length = ks.length) (i : Nat) (hi : i < ks.length) :
    (tensF x z ks c)[i]? = some ((((x, z) :: tensF x z ks c).getD i (0, 0)).1 + ks[i].2.2 * c.getD i 0, (((x, z) :: tensF x z ks c).getD i (0, 0)).2 + ks[i].2.1) := by
  induction ks generalizing x z c i with
  | nil => simp at hi
  | cons k r ih =>
    cases c with
    | nil => simp at h
    | cons n c =>
      cases i with
      | zero => simp [tensF]
      | succ i =>
        have := ih (x + k.2.2 * n) (z + k.2.1) c (by simpa using h) i (by simpa using hi)
        simp only [tensF, List.getElem?_cons_succ, List.getElem_cons_succ, List.getD_cons_succ]
        exact this
theorem tens_len (l : Ln) (c : List Int) (h : c.length = l.ks.length) : (tens l c).length = l.ks.length := tensF_len _ _ _ _ h
theorem tb_succ (l : Ln) (c : List Int) (h : c.length = l.ks.length) (k : Nat) (hk : k < l.ks.length) :
    tb l c (k + 1) = ((tb l c k).1 + l.ks[k].2.2 * c.getD k 0, (tb l c k).2 + l.ks[k].2.1) ∧ (tens l c).take (k + 1) = (tens l c).take k ++ [tb l c (k + 1)] := by
  have h1 := tensF_at l.x l.z l.ks c h k hk
  have e : tb l c (k + 1) = (tens l c).getD k (0, 0) := by unfold tb; rw [List.getD_cons_succ]
  have hl : k < (tens l c).length := by rw [tens_len l c h]; exact hk
  refine ⟨?_, ?_⟩
  · rw [e, List.getD_eq_getElem?_getD]
    show ((tensF l.x l.z l.ks c)[k]?).getD (0, 0) = _
    rw [h1]
    rfl
  · rw [List.take_succ_eq_append_getElem hl, e, getD_eq _ _ _ hl]
theorem tensF_bd (B x z : Int) (ks : List Lk) (c : List Int) (hx : -B ≤ x ∧ x ≤ B) (hz : -B ≤ z ∧ z ≤ B) (hk : ∀ k ∈ ks, 1 ≤ k.1 ∧ k.1 ≤ 1000 ∧ -1000 ≤ k.2.1 ∧ k.2.1 ≤ 1000 ∧ 0 ≤ k.2.2 ∧ k.2.2 ≤ 20)
    (hc : ∀ n ∈ c, -50 ≤ n ∧ n ≤ 50) : ∀ t ∈ tensF x z ks c, (-(B + 1000 * ks.length) ≤ t.1 ∧ t.1 ≤ B + 1000 * ks.length) ∧ (-(B + 1000 * ks.length) ≤ t.2 ∧ t.2 ≤ B + 1000 * ks.length) := by
  induction ks generalizing B x z c with
  | nil => intro p hp; cases c <;> simp [tensF] at hp
  | cons k r ih =>
    cases c with
    | nil => intro p hp; simp [tensF] at hp
    | cons n c =>
      have k0 := hk k (by simp)
      have c0 := hc n (by simp)
      have m1 := mulz k.2.2 n (by omega) (by omega) (by omega) (by omega)
      intro p hp
      simp only [tensF, List.mem_cons] at hp
      simp only [List.length_cons]
      rcases hp with rfl | hp
      · simp only; omega
      · have := ih (B + 1000) _ _ c (by omega) (by omega) (fun k' hk' => hk k' (by simp [hk'])) (fun r' hr' => hc r' (by simp [hr'])) p hp
        omega
structure CuOk (l : Ln) (c : List Int) : Prop where
  len : c.length = l.ks.length
  ok : ∀ n ∈ c, -50 ≤ n ∧ n ≤ 50
theorem tens_bd {l : Ln} {c : List Int} (hl : LnOk l) (hc : CuOk l c) : ∀ t ∈ tens l c, (-20000 ≤ t.1 ∧ t.1 ≤ 20000) ∧ (-20000 ≤ t.2 ∧ t.2 ≤ 20000) := by
  intro t ht
  have := tensF_bd 10000 l.x l.z l.ks c ⟨by have := hl.x0; omega, hl.x1⟩ ⟨by have := hl.z0; omega, hl.z1⟩ hl.ok hc.ok t ht
  have := hl.n1
  omega
theorem tb_bd {l : Ln} {c : List Int} (hl : LnOk l) (hc : CuOk l c) (k : Nat) (hk : k ≤ l.ks.length) : (-20000 ≤ (tb l c k).1 ∧ (tb l c k).1 ≤ 20000) ∧ (-20000 ≤ (tb l c k).2 ∧ (tb l c k).2 ≤ 20000) := by
  unfold tb
  cases k with
  | zero => have := hl.x0; have := hl.x1; have := hl.z0; have := hl.z1; simp; omega
  | succ k =>
    rw [List.getD_cons_succ]
    have hk' : k < (tens l c).length := by rw [tens_len l c hc.len]; omega
    rw [getD_eq _ _ _ hk']
    exact tens_bd hl hc _ (List.getElem_mem _)
theorem cursErr_cu {l : Ln} {c : List Int} (h : cursErr l c = 0) : CuOk l c := by
  have h1 := cursErr_ok h
  refine ⟨by have := h1.len; simpa [still] using this, fun n hn => ?_⟩
  have := h1.ok (n, n) (by simp [still]; exact hn)
  exact ⟨this.1, this.2.2⟩

theorem Ow.set {α : Type} {enc : α → List Value} {s : Nat} {e : TypeId} {base : Nat} {w : World} {v : Value} {xs : List α} (h : Ow enc s e base w v xs) {p : Addr} (hp : p.block < base) {u : Value} : Ow enc s e base (w.setCell p u) v xs :=
  World.ownsRow.kept (row := some p.block) h ⟨rfl, rfl, rfl, by simp, fun k _ hne => Below.heap_setCell w p u k (by rintro rfl; exact hne rfl)⟩ (.inr (h.apart hp))
set_option maxRecDepth 100000 in
set_option maxHeartbeats 1000000 in
theorem Tensions_any (v u : Value) (l : Ln) (cu : List Int) (w : World) (hs : Sl e3 3 w v l.ks) (hu : Sl e1 1 w u cu) (hl : LnOk l) (hc : CuOk l cu) :
    Calls Try.prog 141 #[.agg #[.int .i64 l.x, .int .i64 l.z, v], u] w fun e w' => ∃ r, e = .returned r ∧ Ow e2 2 23 w.heap.size w' r (tens l cu) ∧ Below w.heap.size w w' := by
  obtain ⟨i0, hi, hz0, hz1, hz2⟩ := info_parts forceinfo
  obtain ⟨A, c, rfl, hcap⟩ := hs.form
  obtain ⟨A', c', rfl, hcap'⟩ := hu.form
  have HS := Lib.hid hs
  have HU := Lib.hid hu
  have HL := Lib.hid hl
  have HC := Lib.hid hc
  have hn1 := hl.n1
  clear hs hu hl hc
  go_enter Try.func141, Try.ntmps141
  go_wp2_with fail
  go_loopw [5, 7] (fun r i wr => ∃ k : Nat, k ≤ l.ks.length ∧ i = .int .i64 k ∧ Ow e2 2 23 (w.heap.size + 2) wr r ((tens l cu).take k) ∧ Below w.heap.size w wr ∧ At wr ⟨w.heap.size, 2, none⟩ (.slice A l.ks.length c) ∧
      At wr ⟨w.heap.size + 1, 0, none⟩ (.int .i64 (tb l cu k).1) ∧ At wr ⟨w.heap.size + 1, 1, none⟩ (.int .i64 (tb l cu k).2)) (fun _ i _ => l.ks.length - (intOf i).toNat)
  case atStart =>
    obtain ⟨x1, y1⟩ := box2 w #[.int .i64 l.x, .int .i64 l.z, .slice A l.ks.length c] #[.int .i64 l.x, .int .i64 l.z] 26 23
    exact ⟨0, Nat.zero_le _, rfl, Ow.nil _ _ _ _ _, below_al (below_alloc1 _ _) _, x1 2 _ rfl, y1 0 _ rfl, y1 1 _ rfl⟩
  case round =>
    obtain ⟨k, hk, rfl, hown, hb, hq, ht1, ht2⟩ := hrel
    have hqc := hq.1
    have htc1 := ht1.1
    have htc2 := ht2.1
    have htf1 := ht1.2
    have htf2 := ht2.2
    have HO := Lib.hid hown
    have HB := Lib.hid hb
    have HA := Lib.hid (And.intro hq (And.intro ht1 ht2))
    clear hown hq ht1 ht2
    by_cases hlt : k < l.ks.length
    · obtain ⟨b, off, rfl, hbl, hc0, hc1, hc2⟩ := (HS.out.below hb).at3 hlt
      have hlu : k < cu.length := by rw [HC.out.len]; exact hlt
      obtain ⟨b', off', rfl, hbl', hd0⟩ := (HU.out.below hb).at1 hlu
      obtain ⟨hsucc, htk⟩ := tb_succ l cu HC.out.len k hlt
      rw [getD_eq _ _ _ hlu] at hsucc
      obtain ⟨⟨g1, g2⟩, g3, g4⟩ := tb_bd HL.out HC.out k (by omega)
      obtain ⟨_, _, g5, g6, g7, g8⟩ := HL.out.ok _ (List.getElem_mem hlt)
      obtain ⟨g9, g10⟩ := HC.out.ok _ (List.getElem_mem hlu)
      obtain ⟨m1, m2⟩ := mulz l.ks[k].2.2 cu[k] g7 g8 g9 g10
      have hlen : ((tens l cu).take k).length ≤ k := List.length_take_le _ _
      have HT := Lib.hid htk
      have HN := Lib.hid hsucc
      have hklu : (k : Int) < (cu.length : Int) := by omega
      clear htk hsucc hb
      generalize tb l cu k = t at *
      generalize l.ks[k] = kk at *
      generalize cu[k] = n at *
      obtain ⟨tx, tz⟩ := t
      obtain ⟨k1, k2, k3⟩ := kk
      simp only at *
      have hw1 : IntKind.i64.wrap (k3 * n) = k3 * n := IntWalk.i64_in _ (by omega)
      have hw2 : IntKind.i64.wrap (tx + k3 * n) = tx + k3 * n := IntWalk.i64_in _ (by omega)
      have hw3 : IntKind.i64.wrap (tz + k2) = tz + k2 := IntWalk.i64_in _ (by omega)
      have A0 : At (((wr.setCell ⟨w.heap.size + 1, 0, none⟩ (.int .i64 (tx + k3 * n))).setCell ⟨w.heap.size + 1, 1, none⟩ (.int .i64 (tz + k2))).drew) ⟨w.heap.size + 1, 0, none⟩ (.int .i64 (tx + k3 * n)) := ((HA.out.2.1.set).other (by simp)).drew
      have A1 : At (((wr.setCell ⟨w.heap.size + 1, 0, none⟩ (.int .i64 (tx + k3 * n))).setCell ⟨w.heap.size + 1, 1, none⟩ (.int .i64 (tz + k2))).drew) ⟨w.heap.size + 1, 1, none⟩ (.int .i64 (tz + k2)) := ((HA.out.2.2.other (by simp)).set).drew
      have A2 : At (((wr.setCell ⟨w.heap.size + 1, 0, none⟩ (.int .i64 (tx + k3 * n))).setCell ⟨w.heap.size + 1, 1, none⟩ (.int .i64 (tz + k2))).drew) ⟨w.heap.size, 2, none⟩ (.slice (some ⟨b, off, none⟩) l.ks.length c) := ((HA.out.1.other (by simp)).other (by simp)).drew
      have HO5 : Hid (Ow e2 2 23 (w.heap.size + 2) (((wr.setCell ⟨w.heap.size + 1, 0, none⟩ (.int .i64 (tx + k3 * n))).setCell ⟨w.heap.size + 1, 1, none⟩ (.int .i64 (tz + k2))).drew) u5 ((tens l cu).take k)) := ((HO.out.set (by show w.heap.size + 1 < _; omega)).set (by show w.heap.size + 1 < _; omega)).drew
      have HB5 : Hid (Below w.heap.size w (((wr.setCell ⟨w.heap.size + 1, 0, none⟩ (.int .i64 (tx + k3 * n))).setCell ⟨w.heap.size + 1, 1, none⟩ (.int .i64 (tz + k2))).drew)) := (below_set (below_set HB.out (by show w.heap.size ≤ w.heap.size + 1; omega) _) (by show w.heap.size ≤ w.heap.size + 1; omega) _).drew
      have HA5 := Lib.hid (And.intro A2 (And.intro A0 A1))
      have hz5 : w.heap.size + 2 ≤ wr.heap.size := by have := HA.out.2.1.lt; simp only at this; omega
      have HO7 : Hid (World.ownsRow (((wr.setCell ⟨w.heap.size + 1, 0, none⟩ (.int .i64 (tx + k3 * n))).setCell ⟨w.heap.size + 1, 1, none⟩ (.int .i64 (tz + k2))).alloc (.cells #[.int .i64 (tx + k3 * n), .int .i64 (tz + k2)] 23)).drew (w.heap.size + 2) 23 2 u5 ((tens l cu).take k).length (((tens l cu).take k).flatMap e2)) := HO5.out.own.alloc _
      have HC7 : Hid (∀ j u, (e2 (tx + k3 * n, tz + k2))[j]? = some u → (((wr.setCell ⟨w.heap.size + 1, 0, none⟩ (.int .i64 (tx + k3 * n))).setCell ⟨w.heap.size + 1, 1, none⟩ (.int .i64 (tz + k2))).alloc (.cells #[.int .i64 (tx + k3 * n), .int .i64 (tz + k2)] 23)).drew.cell? ((⟨wr.heap.size, 0, none⟩ : Addr).add j) = some u) := by
        intro j u hj
        have h := cells_new ((wr.setCell ⟨w.heap.size + 1, 0, none⟩ (.int .i64 (tx + k3 * n))).setCell ⟨w.heap.size + 1, 1, none⟩ (.int .i64 (tz + k2))) (e2 (tx + k3 * n, tz + k2)) 23 j u hj
        rw [World.size_setCell, World.size_setCell] at h
        exact h
      clear A0 A1 A2
      go_wp2_with fail
      go_still_tail 24, (by kernel_rfl)
      go_wp2_with (at_builtin; refine wpList_append_own _ rfl _ _ 57 rfl (w.heap.size + 2) 23 i0 _ 2 16 Try.underlying57 hi hz0 hz1 hz2 rfl (by decide) _ _ _ rfl HO7.out ⟨_, 0, none⟩ 1 1 (e2 (tx + k3 * n, tz + k2)) rfl rfl HC7.out (e2_one _) (by simp only [maxLen]; omega) (by omega) (by simp; omega) ?_; intro v1 w6 hown1 hg1 _; have HO6 := Lib.hid hown1; have HG := Lib.hid hg1; clear hown1 hg1)
      go_roundw
      case rel =>
        have hap := fun j (hj : j < w.heap.size + 2) => HO5.out.apart (k := j) hj
        refine ⟨k + 1, by omega, by go_num, by rw [HT.out, HN.out]; exact Ow.snoc HO6.out, (below_al HB5.out _).grown HG.out (below_al HB5.out _).size (fun j e => by have := (World.ownsRow.lt HO5.out j e).1; omega), (HA5.out.1.al _).grown HG.out (hap _ (by show w.heap.size < _; omega)), ?_, ?_⟩
        · rw [HN.out]; exact (HA5.out.2.1.al _).grown HG.out (hap _ (by show w.heap.size + 1 < _; omega))
        · rw [HN.out]; exact (HA5.out.2.2.al _).grown HG.out (hap _ (by show w.heap.size + 1 < _; omega))
      case measure => simp [intOf]; omega
    · clear hb
      obtain rfl : k = l.ks.length := by omega
      have hfin : (tens l cu).take l.ks.length = tens l cu := List.take_of_length_le (by rw [tens_len l cu HC.out.len]; omega)
      rw [hfin] at HO
      go_wp2_with fail
      go_ret
      exact ⟨_, rfl, HO.out.less (by omega), HB.out⟩
end Go.Proofs.Ytekinmafdhgmpaa

namespace Go.Proofs.Ytekinmafdhgmpaa
open Go.RowKit Go.Shelf

theorem rangeinfo2 : (Try.prog.info? 56).map (fun i => (i.zero, i.size, i.bytes)) = some (some (.agg #[.int .i64 0, .int .i64 0]), 2, 16) := by kernel_rfl
theorem linkinfo : (Try.prog.info? 138).map (fun i => (i.zero, i.size, i.bytes)) = some (some (.agg #[.int .i64 0, .int .i64 0, .int .i64 0]), 3, 24) := by kernel_rfl
set_option maxHeartbeats 400000 in
theorem CopyRanges_any (v : Value) (xs : List (Int × Int)) (w : World) (hs : Sl e2 2 w v xs) (hbig : xs.length ≤ 1000) :
    Calls Try.prog 13 #[v] w fun e w' => ∃ r, e = .returned r ∧ Ow e2 2 56 w.heap.size w' r xs ∧ Below w.heap.size w w' := by
  have HS := Lib.hid hs
  obtain ⟨A, c, rfl, hcap⟩ := hs.form
  obtain ⟨i0, hi, hz0, hz1, hz2⟩ := info_parts rangeinfo2
  have ho : Ow e2 2 56 w.heap.size (w.alloc (.cells #[] 56)) (.slice (some ⟨w.heap.size, 0, none⟩) 0 0) [] := Ow.lit w #[] [] (Nat.le_refl _) (by simp) rfl rfl
  have HO := Lib.hid ho
  clear hs ho
  go_enter Try.func13, Try.ntmps13
  go_wp2_with (at_builtin; refine wpList_append_sl _ rfl _ _ 27 rfl w.heap.size 56 i0 _ 2 16 Try.underlying27 hi hz0 hz1 hz2 rfl (by decide) e2_len e2_one _ [] rfl HO.out _ _ _ xs rfl (HS.out.alloc _) (by simp; omega) (by decide) (by simp) ?_; intro v1 w2 hown1 hg1; have HO2 := Lib.hid hown1; have HG := Lib.hid hg1; clear hown1 hg1)
  go_ret
  exact ⟨_, rfl, by simpa using HO2.out, HO.out.grown HG.out (below_alloc1 _ _) (Nat.le_refl _)⟩
set_option maxHeartbeats 400000 in
theorem CopyInts_any (v : Value) (xs : List Int) (w : World) (hs : Sl e1 1 w v xs) (hbig : xs.length ≤ 1000) :
    Calls Try.prog 16 #[v] w fun e w' => ∃ r, e = .returned r ∧ Ow e1 1 3 w.heap.size w' r xs ∧ Below w.heap.size w w' := by
  have HS := Lib.hid hs
  obtain ⟨A, c, rfl, hcap⟩ := hs.form
  obtain ⟨i0, hi, hz0, hz1, hz2⟩ := info_parts intinfo
  have ho : Ow e1 1 3 w.heap.size (w.alloc (.cells #[] 3)) (.slice (some ⟨w.heap.size, 0, none⟩) 0 0) [] := Ow.lit w #[] [] (Nat.le_refl _) (by simp) rfl rfl
  have HO := Lib.hid ho
  clear hs ho
  go_enter Try.func16, Try.ntmps16
  go_wp2_with (at_builtin; refine wpList_append_sl _ rfl _ _ 29 rfl w.heap.size 3 i0 _ 1 8 Try.underlying29 hi hz0 hz1 hz2 rfl (by decide) e1_len e1_one _ [] rfl HO.out _ _ _ xs rfl (HS.out.alloc _) (by simp; omega) (by decide) (by simp) ?_; intro v1 w2 hown1 hg1; have HO2 := Lib.hid hown1; have HG := Lib.hid hg1; clear hown1 hg1)
  go_ret
  exact ⟨_, rfl, by simpa using HO2.out, HO.out.grown HG.out (below_alloc1 _ _) (Nat.le_refl _)⟩
theorem isCurrent_any (n : Int) (w : World) :
    Calls Try.prog 106 #[.int .i64 n] w fun e w' => e = .returned (.bool (inR 50 n)) ∧ w = w' := by
  have E : Hid (inB n (-50) 50 = inR 50 n) := rfl
  go_enter Try.func106, Try.ntmps106
  go_wp2_with (go_at_call 26; refine (Within_any _ _ _ _).mono ?_; rintro e w' ⟨rfl, rfl⟩)
  go_ret
  exact ⟨ret_bool E.out, by trivial⟩
def fewB (k : Nat) (n : Int) : Bool := decide (k ≤ 12 ∧ n ≤ 14)
theorem few_any (v : Value) (l : Ln) (n : Int) (w : World) (hs : Sl e3 3 w v l.ks) :
    Calls Try.prog 10 #[.agg #[.int .i64 l.x, .int .i64 l.z, v], .int .i64 n] w fun e w' => e = .returned (.bool (fewB l.ks.length n)) ∧ Below w.heap.size w w' := by
  obtain ⟨A, c, rfl, hcap⟩ := hs.form
  clear hs
  by_cases h1 : l.ks.length ≤ 12
  · have h1' : (l.ks.length : Int) ≤ 12 := by omega
    by_cases h2 : n ≤ 14
    · have E : Hid (fewB l.ks.length n = true) := by unfold Hid fewB; simp [h1, h2]
      go_enter Try.func10, Try.ntmps10
      go_wp2_with fail
      go_ret
      exact ⟨by rw [E.out]; rfl, below_alloc1 _ _⟩
    · have E : Hid (fewB l.ks.length n = false) := by unfold Hid fewB; simp [h2]
      go_enter Try.func10, Try.ntmps10
      go_wp2_with fail
      go_ret
      exact ⟨by rw [E.out]; (first | rfl | (congr 2; simp; omega)), below_alloc1 _ _⟩
  · have h1' : ¬ (l.ks.length : Int) ≤ 12 := by omega
    have E : Hid (fewB l.ks.length n = false) := by unfold Hid fewB; simp [h1]
    go_enter Try.func10, Try.ntmps10
    go_wp2_with fail
    go_ret
    exact ⟨by rw [E.out]; (first | rfl | (congr 2; simp; omega)), below_alloc1 _ _⟩
end Go.Proofs.Ytekinmafdhgmpaa

namespace Go.Proofs.Ytekinmafdhgmpaa
open Go.RowKit Go.Shelf
attribute [local go_sem] monoUpon_value monoUpon_skip monoUpon_enter

theorem tensF_pulls (lo hi z : Int) (ks : List Lk) (c : List Int) : (pullsF lo hi z ks (still c)).map (fun p => (p.lo, p.z)) = tensF lo z ks c := by
  induction ks generalizing lo hi z c with
  | nil => cases c <;> rfl
  | cons k r ih =>
    cases c with
    | nil => rfl
    | cons n c => simp only [still, List.map_cons, pullsF, tensF]; congr 1; exact ih _ _ _ _
theorem tensions_eq (l : Ln) (c : List Int) : tensions l c = tens l c := tensF_pulls _ _ _ _ _
/-- The first of the strongest among the first k. -/
def strongK (ts : List (Int × Int)) (k : Nat) : Nat := (List.range k).foldl (fun m i => if sq (ts.getD m (0, 0)) < sq (ts.getD i (0, 0)) then i else m) 0
theorem strongK_succ (ts : List (Int × Int)) (k : Nat) : strongK ts (k + 1) = if sq (ts.getD (strongK ts k) (0, 0)) < sq (ts.getD k (0, 0)) then k else strongK ts k := by
  unfold strongK
  rw [List.range_succ, List.foldl_append]
  rfl
def strongestIn (l : Ln) (c : List Int) : Int × Int × Int :=
  if currentsErr l c = 0 then ((strongK (tensions l c) (tensions l c).length : Int), sq ((tensions l c).getD (strongK (tensions l c) (tensions l c).length) (0, 0)), 0) else (0, 0, currentsErr l c)
theorem ret_trip {q : Int × Int × Int} {a b c : Int} (h : q = (a, b, c)) : Ending.returned (.tuple #[.int .i64 a, .int .i64 b, .int .i64 c]) = .returned (.tuple #[.int .i64 q.1, .int .i64 q.2.1, .int .i64 q.2.2]) := by subst h; rfl
theorem tensions_small {l : Ln} {c : List Int} (h : currentsErr l c = 0) : 0 < (tensions l c).length ∧ (tensions l c).length ≤ 10 ∧ ∀ t ∈ tensions l c, (-1000000 ≤ t.1 ∧ t.1 ≤ 1000000) ∧ (-1000000 ≤ t.2 ∧ t.2 ≤ 1000000) := by
  obtain ⟨h3, h4⟩ := currentsErr_ok h
  have hl := lineErr_ok h3
  have hc := cursErr_cu h4
  rw [tensions_eq]
  refine ⟨by rw [tens_len _ _ hc.len]; exact hl.n0, by rw [tens_len _ _ hc.len]; exact hl.n1, fun t ht => ?_⟩
  have := tens_bd hl hc t ht
  omega
end Go.Proofs.Ytekinmafdhgmpaa

namespace Go.Proofs.Ytekinmafdhgmpaa
open Go.RowKit Go.Shelf
attribute [local go_sem] monoUpon_value monoUpon_skip monoUpon_enter

theorem ret_pairI {a b : Int} {q : Int × Int} (h : q = (a, b)) : Ending.returned (.tuple #[.int .i64 a, .int .i64 b]) = .returned (.tuple #[.int .i64 q.1, .int .i64 q.2]) := by subst h; rfl
theorem strongK_lt (ts : List (Int × Int)) (h : 0 < ts.length) : ∀ k, k ≤ ts.length → strongK ts k < ts.length
  | 0, _ => h
  | k + 1, hk => by
    rw [strongK_succ]
    split
    · omega
    · exact strongK_lt ts h k (by omega)
def strongR (l : Ln) (c : List Int) : Int × Int := ((strongK (tens l c) (tens l c).length : Int), sq ((tens l c).getD (strongK (tens l c) (tens l c).length) (0, 0)))
end Go.Proofs.Ytekinmafdhgmpaa

namespace Go.Proofs.Ytekinmafdhgmpaa
open Go.RowKit Go.Shelf
attribute [local go_sem] monoUpon_value monoUpon_skip monoUpon_enter

/-- The index of the first tension that is not the wanted one, and the error. -/
def balF : List (Int × Int) → List (Int × Int) → Nat → Int × Int
  | x :: xs, y :: ys, i => if x = y then balF xs ys (i + 1) else ((i : Int), 19)
  | _, _, _ => (0, 0)
theorem balF_drop (xs ys : List (Int × Int)) (k : Nat) (h : k < xs.length) (h' : k < ys.length) : balF (xs.drop k) (ys.drop k) k = if xs[k] = ys[k] then balF (xs.drop (k + 1)) (ys.drop (k + 1)) (k + 1) else ((k : Int), 19) := by
  rw [List.drop_eq_getElem_cons h, List.drop_eq_getElem_cons h', balF]
def balErr (l : Ln) (c : List Int) (t : List (Int × Int)) : Int × Int := if t.length = l.ks.length then balF t (tens l c) 0 else (0, 10)
end Go.Proofs.Ytekinmafdhgmpaa

namespace Go.Proofs.Ytekinmafdhgmpaa
open Go.RowKit Go.Shelf
attribute [local go_sem] monoUpon_value monoUpon_skip monoUpon_enter

set_option maxRecDepth 100000 in
theorem append_links (w : World) (i : TypeInfo) (hi : Try.prog.info? 138 = some i) (hz : i.zero = some (.agg #[.int .i64 0, .int .i64 0, .int .i64 0])) (hsize : i.size = 3) (hby : i.bytes = 24)
    (ty : TypeId) (g : Nat) (A : Option Addr) (m c : Nat) (ys : List Lk) (hr : Sl e3 3 w (.slice A m c) ys) (hbig : ys.length ≤ 1000) :
    ∃ v' w', (Builtin.append_ #[24, 24] ty #[.slice (some ⟨g, 0, none⟩) 0 0, .slice A m c]).run Try.prog w = .ok v' w' ∧ (Sl e3 3 w' v' ys ∧ (ys ≠ [] → ∀ b, v'.ownBlock = some b → w.heap.size ≤ b)) ∧ Below w.heap.size w w' := by
  have hm : m = ys.length := by
    obtain ⟨A', c', e, _⟩ := hr.form
    injection e
  by_cases h0 : ys = []
  · subst h0
    simp at hm
    subst hm
    refine ⟨.slice (some ⟨g, 0, none⟩) 0 0, w, ?_, ⟨⟨_, _, rfl, Nat.le_refl _, fun h => absurd rfl h⟩, fun h => absurd rfl h⟩, Below.refl _ _⟩
    rcases A with _ | ad
    · simp [Builtin.append_, run_underlying Try.underlying24, sizeOf, typeInfo, hi, Builtin.lenOf, Builtin.firstCells, storeCells]
    · simp [Builtin.append_, run_underlying Try.underlying24, sizeOf, typeInfo, hi, Builtin.lenOf, Builtin.firstCells, loadCells, loadCellsFrom, storeCells]
  · have hpos : 0 < ys.length := List.length_pos_iff.2 h0
    obtain ⟨b, off, hA, hb, _⟩ := hr.raw (k := 0) hpos
    subst hA
    subst hm
    have hl : (ys.flatMap e3).length = ys.length * 3 := flat_len e3 3 e3_len ys
    have hr2 := run_append_grow (P := Try.prog) (w := w) 24 ty 138 i _ Try.underlying24 hi hz ⟨g, 0, none⟩ 0 0 [] (by simp) (by intro j v hv; simp at hv) ⟨b, off, none⟩ ys.length c (ys.flatMap e3) (by rw [hsize]; exact hl) (by
      intro j u hu
      have hj : j < ys.length * 3 := by
        have := (List.getElem?_eq_some_iff.1 hu).1
        rwa [hl] at this
      have hdiv : j / 3 < ys.length := Nat.div_lt_of_lt_mul (by omega)
      have hmod : j % 3 < 3 := Nat.mod_lt _ (by omega)
      obtain ⟨b', off', e', _, hc⟩ := hr.raw hdiv
      injection e' with e'
      injection e' with e1' e2'
      subst e1'; subst e2'
      have h := hc _ hmod
      rw [← flat_at e3 3 e3_len ys _ hdiv _ hmod, Nat.add_assoc, Nat.mul_comm (j / 3), Nat.div_add_mod] at h
      rw [Go.WideShapes.add_plain, h, hu]) (by omega) (by omega) (by rw [hby]; exact growslice_fits_wide (by omega) (by omega))
    have hge := grownCap_ge w (0 + ys.length) 0 138
    refine ⟨_, _, hr2, ⟨⟨some ⟨w.heap.size, 0, none⟩, grownCap w (0 + ys.length) 0 138, by simp, by omega, fun _ => ⟨w.heap.size, 0, rfl, by simp, fun k hk j hj => ?_⟩⟩, fun _ b hb => by simp [Value.ownBlock] at hb; omega⟩, (Below.drew (Below.refl _ _)).alloc (Nat.le_refl _) _⟩
    have hbk : (w.drew.alloc (.cells ((#[] : Array Value) ++ (ys.flatMap e3).toArray ++ Builtin.zeroCells (Value.agg #[.int .i64 0, .int .i64 0, .int .i64 0]).cells (grownCap w (0 + ys.length) 0 138 - (0 + ys.length))) 138)).heap[w.heap.size]? = some (.cells ((#[] : Array Value) ++ (ys.flatMap e3).toArray ++ Builtin.zeroCells (Value.agg #[.int .i64 0, .int .i64 0, .int .i64 0]).cells (grownCap w (0 + ys.length) 0 138 - (0 + ys.length))) 138 (0, 0)) := heap_alloc_new w.drew _
    rw [← flat_at e3 3 e3_len ys k hk j hj]
    refine (cell_of_row _ _ _ _ _ _ hbk).trans ?_
    have hlt : k * 3 + j < (ys.flatMap e3).length := by rw [hl]; omega
    simp only [Nat.zero_add, Array.empty_append]
    rw [Array.getElem?_append_left (by simpa using hlt)]
    simp
theorem mono_append {P : Program} {o : Oper} {a : Act} {w w' : World} {R : Value → World → Prop} {s x : Operand} {t : TypeId} {vs vx v' : Value} (ho : o.op = .call { callee := .builtin .append, args := #[s, x], argTypes := #[t, t] })
    (hs : a.eval s = vs) (hx : a.eval x = vx) (hrun : (Builtin.append_ #[t, t] o.type #[vs, vx]).run P w = .ok v' w') (h : R v' w') : mono P o a w R := by
  refine ⟨?_⟩
  unfold execOp
  simp only [ho, resolve, invoke, builtin, Sem.run_bind, Sem.run_pure, Result.andThen_ok, List.map_toArray, List.map_cons, List.map_nil, hs, hx, hrun]
  exact h
set_option maxRecDepth 100000 in
set_option maxHeartbeats 1000000 in
theorem CopyLine_any (v : Value) (l : Ln) (w : World) (hs : Sl e3 3 w v l.ks) (hbig : l.ks.length ≤ 1000) :
    Calls Try.prog 12 #[.agg #[.int .i64 l.x, .int .i64 l.z, v]] w fun e w' => ∃ r, e = .returned (.agg #[.int .i64 l.x, .int .i64 l.z, r]) ∧ Sl e3 3 w' r l.ks ∧ Below w.heap.size w w' := by
  obtain ⟨i0, hi, hz0, hz1, hz2⟩ := info_parts linkinfo
  obtain ⟨A, c, rfl, hcap⟩ := hs.form
  have HS := Lib.hid hs
  have HAP := Lib.hid (fun w ty g (h : Sl e3 3 w (.slice A l.ks.length c) l.ks) => append_links w i0 hi hz0 hz1 hz2 ty g A l.ks.length c l.ks h hbig)
  clear hs
  obtain ⟨x, z, ks⟩ := l
  simp only at *
  go_enter Try.func12, Try.ntmps12
  go_wp2_with fail
  obtain ⟨W0, hW0⟩ : ∃ W0, W0 = (w.alloc (.cells #[.int .i64 x, .int .i64 z, .slice A ks.length c] 26)).alloc (.cells #[.int .i64 0, .int .i64 0, .slice none 0 0] 26) := ⟨_, rfl⟩
  rw [← hW0]
  have HB0 : Hid (Below w.heap.size w W0) := by rw [hW0]; exact below_al (below_alloc1 _ _) _
  have HX : Hid (∀ W, Below W0.drew.heap.size W0.drew W → (At W ⟨w.heap.size, 0, none⟩ (.int .i64 x) ∧ At W ⟨w.heap.size, 1, none⟩ (.int .i64 z) ∧ At W ⟨w.heap.size, 2, none⟩ (.slice A ks.length c)) ∧
      (At W ⟨w.heap.size + 1, 0, none⟩ (.int .i64 0) ∧ At W ⟨w.heap.size + 1, 1, none⟩ (.int .i64 0) ∧ At W ⟨w.heap.size + 1, 2, none⟩ (.slice none 0 0)) ∧ Sl e3 3 W (.slice A ks.length c) ks ∧ Below w.heap.size w W) := by
    intro W h
    have hb : Below w.heap.size w W := below_tr HB0.out (Below.trans (Below.drew (Below.refl _ _)) h)
    rw [hW0] at h
    obtain ⟨bx, by'⟩ := box2 w #[.int .i64 x, .int .i64 z, .slice A ks.length c] #[.int .i64 0, .int .i64 0, .slice none 0 0] 26 26
    exact ⟨⟨(bx 0 _ rfl).drew.below h, (bx 1 _ rfl).drew.below h, (bx 2 _ rfl).drew.below h⟩, ⟨(by' 0 _ rfl).drew.below h, (by' 1 _ rfl).drew.below h, (by' 2 _ rfl).drew.below h⟩, HS.out.below hb, hb⟩
  have hz0 : w.heap.size + 2 = W0.heap.size := by rw [hW0]; simp
  clear hW0
  refine wp_region_mono 6 [3, 4, 5, 6, 7, 8] [[], [0], [], [], [3], [2, 4]] [fun v _ => v = .pointer (some ⟨w.heap.size, 0, none⟩), fun v _ => v = .agg #[.int .i64 x, .int .i64 z], fun v w => ∃ g, v = .slice (some ⟨g, 0, none⟩) 0 0, fun v _ => v = .pointer (some ⟨w.heap.size, 2, none⟩), fun v _ => v = .slice A ks.length c, fun v w => (Sl e3 3 w v ks ∧ (ks ≠ [] → ∀ b, v.ownBlock = some b → W0.heap.size ≤ b))] (by kernel_rfl) (by kernel_rfl) ⟨st_eq _, st_eq _, st_pure _, st_eq _, st_eq _, (fun _ _ _ h hb => ⟨h.1.below hb, h.2⟩), trivial⟩ ?_ ?_
  · simp only [List.take_succ_cons, List.take_zero, steps, and_true]
    refine ⟨?_, ?_, ?_, ?_, ?_, ?_⟩
    · intro x W hB _; simp only [putX, setX, List.foldl_cons, List.foldl_nil]; refine ⟨?_⟩; go_simp; exact ⟨rfl, Below.refl _ _⟩
    · intro x W hB hN; simp only [needs, sAt, dAt] at hN; simp only [putX, setX, List.foldl_cons, List.foldl_nil]; obtain ⟨⟨⟨c0, _⟩, ⟨c1, _⟩, ⟨c2, _⟩⟩, _⟩ := HX.out W hB; refine ⟨?_⟩; go_simp; exact ⟨rfl, Below.refl _ _⟩
    · intro x W hB _; simp only [putX, setX, List.foldl_cons, List.foldl_nil]; refine ⟨?_⟩; go_simp; exact ⟨⟨_, rfl⟩, below_alloc1 _ _⟩
    · intro x W hB _; simp only [putX, setX, List.foldl_cons, List.foldl_nil]; refine ⟨?_⟩; go_simp; exact ⟨rfl, Below.refl _ _⟩
    · intro x W hB hN; simp only [needs, sAt, dAt] at hN; simp only [putX, setX, List.foldl_cons, List.foldl_nil]; obtain ⟨⟨⟨c0, _⟩, ⟨c1, _⟩, ⟨c2, _⟩⟩, _⟩ := HX.out W hB; refine ⟨?_⟩; go_simp; exact ⟨rfl, Below.refl _ _⟩
    · intro x W hB hN; simp only [needs, sAt, dAt] at hN; simp only [putX, setX, List.foldl_cons, List.foldl_nil]; obtain ⟨⟨g, hg⟩, h7, _⟩ := hN; obtain ⟨v', w', hrun, hsl, hbw⟩ := HAP.out W 24 g (HX.out W hB).2.2.1; exact mono_append rfl (by go_simp) (by go_simp) hrun ⟨⟨hsl.1, fun h b hb' => Nat.le_trans hB.size (hsl.2 h b hb')⟩, hbw⟩
  · intro y W hB hA
    simp only [allSp] at hA
    have q1 := hA.2.1
    have q2 := hA.2.2.2.2.2.1
    obtain ⟨q2, qb⟩ := q2
    obtain ⟨Ar, cr, e8, _⟩ := q2.form
    rw [e8] at q2 qb
    have HA := Lib.hid (HX.out W hB)
    obtain ⟨_, ⟨⟨d0, f0⟩, ⟨d1, f1⟩, ⟨d2, f2⟩⟩, _, _⟩ := HX.out W hB
    clear hA hB
    simp only [putX, setX, List.foldl_cons, List.foldl_nil, List.drop_succ_cons, List.drop_zero, q1, e8, List.setIfInBounds_toArray, List.set_cons_succ, List.set_cons_zero]
    clear q1
    go_wp2_with fail
    obtain ⟨W5, hW5⟩ : ∃ W5, W5 = (((W.setCell ⟨w.heap.size + 1, 0, none⟩ (.int .i64 x)).setCell ⟨w.heap.size + 1, 1, none⟩ (.int .i64 z)).setCell ⟨w.heap.size + 1, 2, none⟩ (.slice Ar ks.length cr)) := ⟨_, rfl⟩
    rw [← hW5]
    obtain ⟨s0, _⟩ : At W5 ⟨w.heap.size + 1, 0, none⟩ (.int .i64 x) := by rw [hW5]; exact ((HA.out.2.1.1.set).other (by simp)).other (by simp)
    obtain ⟨s1, _⟩ : At W5 ⟨w.heap.size + 1, 1, none⟩ (.int .i64 z) := by rw [hW5]; exact ((HA.out.2.1.2.1.other (by simp)).set).other (by simp)
    obtain ⟨s2, _⟩ : At W5 ⟨w.heap.size + 1, 2, none⟩ (.slice Ar ks.length cr) := by rw [hW5]; exact ((HA.out.2.1.2.2.other (by simp)).other (by simp)).set
    have HB5 : Below w.heap.size w W5 := by rw [hW5]; exact below_set (below_set (below_set HA.out.2.2.2 (by show w.heap.size ≤ w.heap.size + 1; omega) _) (by show w.heap.size ≤ w.heap.size + 1; omega) _) (by show w.heap.size ≤ w.heap.size + 1; omega) _
    have HS5 : Sl e3 3 W5 (.slice Ar ks.length cr) ks := by
      rw [hW5]
      by_cases hk : ks = []
      · exact ⟨_, _, rfl, by obtain ⟨_, _, h1, h2, _⟩ := q2; injection h1, fun h => absurd hk h⟩
      · have hne : ∀ b, (Value.slice Ar ks.length cr).ownBlock = some b → b ≠ w.heap.size + 1 := fun b hb e => by have := qb hk b hb; have := hz0; omega
        have st : ∀ {X : World} {u : Value} {o : Nat}, Sl e3 3 X (.slice Ar ks.length cr) ks → Sl e3 3 (X.setCell ⟨w.heap.size + 1, o, none⟩ u) (.slice Ar ks.length cr) ks := fun h =>
          Sl.kpt (S := fun b => b ≠ w.heap.size + 1) h ⟨by simp, fun i hi _ => Below.heap_setCell _ _ _ i hi⟩ hne
        exact st (st (st q2))
    clear hW5
    (try simp only [Exit.inBlock, Exit.then])
    refine bodyPost_ret (v := .agg #[.int .i64 x, .int .i64 z, .slice Ar ks.length cr]) ?_ rfl ⟨_, rfl, HS5, HB5⟩
    rw [results_cell rfl]
    go_simp
end Go.Proofs.Ytekinmafdhgmpaa
