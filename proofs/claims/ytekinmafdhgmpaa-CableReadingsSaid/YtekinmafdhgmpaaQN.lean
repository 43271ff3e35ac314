/-
  Walks of chapter 1's lines: the least load.
-/
import Derived.Test.YtekinmafdhgmpaaQI
import Derived.BigRegionIn
import Derived.Test.YtekinmafdhgmpaaQL
namespace Go.Proofs.Ytekinmafdhgmpaa
open Go.RowKit Go.Shelf
attribute [local go_sem] Oper.semAt_some wide_fn wide_depth round_fn round_depth

theorem minF_snoc (m : Int) (xs : List Int) (x : Int) : minF m (xs ++ [x]) = min (minF m xs) x := by
  induction xs generalizing m with
  | nil => rfl
  | cons y r ih => simp only [List.cons_append, minF, ih]
theorem minF_bd (m : Int) (xs : List Int) (h : -20000 ≤ m ∧ m ≤ 20000) (hx : ∀ x ∈ xs, -20000 ≤ x ∧ x ≤ 20000) : -20000 ≤ minF m xs ∧ minF m xs ≤ 20000 := by
  induction xs generalizing m with
  | nil => exact h
  | cons y r ih =>
    have := hx y (by simp)
    exact ih _ (by omega) (fun x hx' => hx x (by simp [hx']))
def minAcc (l : Ln) (pre : List (Nat × Int)) : Int := minF ((zs l).headD 0) (pre.map (·.2))
theorem minAcc_snoc (l : Ln) (pre : List (Nat × Int)) (i : Nat) (z : Int) : minAcc l (pre ++ [(i, z)]) = min (minAcc l pre) z := by unfold minAcc; rw [List.map_append]; exact minF_snoc _ _ _
theorem headD_zs (l : Ln) (h : 0 < l.ks.length) : (zs l).headD 0 = l.z + l.ks[0].2.1 := by
  unfold zs
  obtain ⟨x, z, ks⟩ := l
  cases ks with
  | nil => simp at h
  | cons k r => rfl
theorem headD_mem (l : Ln) (h : 0 < l.ks.length) : (zs l).headD 0 ∈ zs l := by
  unfold zs
  obtain ⟨x, z, ks⟩ := l
  cases ks with
  | nil => simp at h
  | cons k r => simp [zsF]
def leastLoad (l : Ln) : Int × Int := if lineErr l = 0 then (least l, 0) else (0, lineErr l)
theorem least_acc (l : Ln) : l.z - minAcc l (lifts l) + 1 = least l := by unfold least minAcc; rw [lifts_zs]

end Go.Proofs.Ytekinmafdhgmpaa

namespace Go.Proofs.Ytekinmafdhgmpaa
open Go.RowKit Go.Shelf
attribute [local go_sem] monoUpon_value monoUpon_skip monoUpon_enter

theorem rangeErr_size1 {r : Int × Int} (h : inR 50 r.1 = false) : rangeErr 50 r = 2 := by unfold rangeErr; simp [h]
theorem rangeErr_size2 {r : Int × Int} (h : inR 50 r.2 = false) : rangeErr 50 r = 2 := by unfold rangeErr; simp [h]
theorem rangeErr_order {r : Int × Int} (h : inR 50 r.1 = true) (h' : inR 50 r.2 = true) : rangeErr 50 r = if r.2 < r.1 then 9 else 0 := by unfold rangeErr; simp [h, h']
set_option maxRecDepth 100000 in
set_option maxHeartbeats 1000000 in
theorem rCheckBox_any (v u : Value) (l : Ln) (b : List (Int × Int)) (w : World) (hs : Sl e3 3 w v l.ks) (hu : Sl e2 2 w u b) (hbig' : b.length ≤ 1000) :
    Calls Try.prog 59 #[.agg #[.int .i64 l.x, .int .i64 l.z, v], u] w fun e w' => e = .returned (.tuple #[.int .i64 (boxErr1 l b).1, .int .i64 (boxErr1 l b).2]) ∧ Below w.heap.size w w' := by
  obtain ⟨A, c, rfl, hcap⟩ := hs.form
  obtain ⟨A', c', rfl, hcap'⟩ := hu.form
  have HU := Lib.hid hu
  clear hs hu
  by_cases h2 : b.length = l.ks.length
  · have E : Hid (boxErr1 l b = fb (rangeErr 50) (b.drop 0) 0) := if_pos h2
    have h2' := lenb h2
    clear h2
    go_enter Try.func59, Try.ntmps59
    go_wp2_with fail
    go_loopw [6] (fun i wr => ∃ k : Nat, k ≤ b.length ∧ i = .int .i64 k ∧ fb (rangeErr 50) (b.drop k) k = fb (rangeErr 50) (b.drop 0) 0 ∧ Below w.heap.size w wr) (fun i _ => b.length - (intOf i).toNat)
    case atStart => exact ⟨0, Nat.zero_le _, rfl, rfl, below_alloc1 _ _⟩
    case round =>
      obtain ⟨k, hk, rfl, hfb, hb⟩ := hrel
      have HF := Lib.hid hfb
      have HB := Lib.hid hb
      clear hfb
      by_cases hlt : k < b.length
      · obtain ⟨bb, off, rfl, hbl, hc0, hc1⟩ := (HU.out.below hb).at2 hlt
        have hd := fb_drop (rangeErr 50) b k hlt
        clear hb
        generalize b[k] = r at *
        obtain ⟨r1, r2⟩ := r
        simp only at *
        cases hy : inR 50 r1
        · rw [rangeErr_size1 (r := (r1, r2)) hy, if_neg (by decide)] at hd
          have HD := Lib.hid hd
          go_wp2_with (go_at_call 106; refine (isCurrent_any _ _).mono ?_; rintro e w' ⟨rfl, rfl⟩)
          go_ret2
          exact ⟨ret_pair' (by rw [E.out, ← HF.out, HD.out]), HB.out⟩
        · cases hy2 : inR 50 r2
          · rw [rangeErr_size2 (r := (r1, r2)) hy2, if_neg (by decide)] at hd
            have HD := Lib.hid hd
            go_wp2_with (go_at_call 106; refine (isCurrent_any _ _).mono ?_; rintro e w' ⟨rfl, rfl⟩)
            go_ret2
            exact ⟨ret_pair' (by rw [E.out, ← HF.out, HD.out]), HB.out⟩
          · rw [rangeErr_order (r := (r1, r2)) hy hy2] at hd
            simp only at hd
            by_cases hlo : r2 < r1
            · rw [if_pos hlo, if_neg (by decide)] at hd
              have HD := Lib.hid hd
              clear hd
              go_wp2_with (go_at_call 106; refine (isCurrent_any _ _).mono ?_; rintro e w' ⟨rfl, rfl⟩)
              go_quiet (fail)
              go_wp2_with fail
              go_ret2
              exact ⟨ret_pair' (by rw [E.out, ← HF.out, HD.out]), below_drN HB.out _⟩
            · rw [if_neg hlo, if_pos rfl] at hd
              have HD := Lib.hid hd
              clear hd
              go_wp2_with (go_at_call 106; refine (isCurrent_any _ _).mono ?_; rintro e w' ⟨rfl, rfl⟩)
              go_quiet (fail)
              go_wp2_with fail
              go_roundw
              case rel => exact ⟨k + 1, by omega, by go_num, by rw [← HF.out, HD.out], below_drN HB.out _⟩
              case measure => simp [intOf]; omega
      · clear hb
        obtain rfl : k = b.length := by omega
        go_wp2_with fail
        go_ret2
        exact ⟨ret_pair' (by rw [E.out, ← HF.out, fb_end _ _ _ (Nat.le_refl _)]), HB.out⟩
  · have E : Hid (boxErr1 l b = (0, 10)) := if_neg h2
    have h2' := lenb' h2
    clear h2
    go_enter Try.func59, Try.ntmps59
    go_wp2_with fail
    go_ret2
    exact ⟨ret_pair' E.out, below_alloc1 _ _⟩

/-! ### heights -/
theorem tensF_zs (x z : Int) (ks : List Lk) (c : List Int) (h : c.length = ks.length) : (tensF x z ks c).map (·.2) = zsF z ks := by
  induction ks generalizing x z c with
  | nil => cases c <;> rfl
  | cons k r ih =>
    cases c with
    | nil => simp at h
    | cons n c => simp only [tensF, List.map_cons, zsF]; rw [ih _ _ c (by simpa using h)]
theorem tens_zs (l : Ln) (c : List Int) (h : c.length = l.ks.length) : (tens l c).map (·.2) = zs l := tensF_zs _ _ _ _ h
theorem run_made1 (w : World) (n : Nat) (hn : n ≤ 1000) : ∃ w', (Instr.makeSlice 29 (.int .i64 (n : Int)) (.int .i64 (n : Int))).run Try.prog w = .ok (.slice (some ⟨w.heap.size, 0, none⟩) n n) w' ∧ Sl e1 1 w' (.slice (some ⟨w.heap.size, 0, none⟩) n n) (List.replicate n 0) ∧ Below w.heap.size w w' := by
  obtain ⟨i0, hi, hz0, hz1, hz2⟩ := info_parts intinfo
  have h := run_make (P := Try.prog) w 29 3 i0 _ (by kernel_rfl) hi hz0 .i64 .i64 n n (by omega) (Int.le_refl _) (by rw [hz2]; omega) (by omega)
  rw [hz1] at h
  simp only [Int.toNat_natCast, Nat.mul_one] at h
  refine ⟨_, h, ⟨some ⟨w.heap.size, 0, none⟩, n, by simp, by simp, fun _ => ⟨w.heap.size, 0, rfl, by simp, fun k hk j hj => ?_⟩⟩, below_alloc1 _ _⟩
  obtain rfl : j = 0 := by omega
  have hk' : k < n := by simpa using hk
  refine (cell_of_row _ _ _ _ _ _ (heap_alloc_new w _)).trans ?_
  simp [madeCells, Value.cells, e1, hk', List.getElem_replicate, Nat.mod_one]
theorem mono_make {P : Program} {o : Oper} {a : Act} {w w' : World} {R : Value → World → Prop} {n m : Operand} {t : TypeId} {vn vm v' : Value} (ho : o.op = .makeSlice t n m)
    (hn : a.eval n = vn) (hm : a.eval m = vm) (hrun : (Instr.makeSlice t vn vm).run P w = .ok v' w') (h : R v' w') : mono P o a w R := by
  refine ⟨?_⟩
  unfold execOp
  simp only [ho, Sem.run_bind, Sem.run_pure, Result.andThen_ok, hn, hm, hrun]
  exact h
end Go.Proofs.Ytekinmafdhgmpaa

namespace Go.Proofs.Ytekinmafdhgmpaa
open Go.RowKit Go.Shelf
attribute [local go_sem] monoUpon_value monoUpon_skip monoUpon_enter

theorem slackF_take (xs : List Int) (k : Nat) (h : k < xs.length) : slackF (xs.take (k + 1)) 0 = if xs[k] ≤ 0 then slackF (xs.take k) 0 ++ [(k : Int)] else slackF (xs.take k) 0 := by
  rw [slackF_acc, slackF_acc, List.take_succ_eq_append_getElem h, List.zipIdx_append, List.filter_append, List.map_append]
  have hl : (xs.take k).length = k := by rw [List.length_take]; omega
  rw [hl]
  by_cases hz : xs[k] ≤ 0 <;> simp [hz]
theorem slackF_len (xs : List Int) (k : Nat) : (slackF xs k).length ≤ xs.length := by
  induction xs generalizing k with
  | nil => exact Nat.le_refl _
  | cons z r ih =>
    have := ih (k + 1)
    rw [slackF]
    split
    · simp only [List.length_cons]; omega
    · simp only [List.length_cons]; omega
/-! ### the least load -/
theorem minF_take (m : Int) (xs : List Int) (k : Nat) (h : k < xs.length) : minF m (xs.take (k + 1)) = min (minF m (xs.take k)) xs[k] := by
  rw [List.take_succ_eq_append_getElem h, minF_snoc]
theorem minF_bdB (m : Int) (xs : List Int) (B : Int) (hm : -B ≤ m ∧ m ≤ B) (h : ∀ x ∈ xs, -B ≤ x ∧ x ≤ B) : -B ≤ minF m xs ∧ minF m xs ≤ B := by
  induction xs generalizing m with
  | nil => exact hm
  | cons x r ih =>
    have := h x (by simp)
    exact ih _ (by omega) (fun y hy => h y (by simp [hy]))
end Go.Proofs.Ytekinmafdhgmpaa
