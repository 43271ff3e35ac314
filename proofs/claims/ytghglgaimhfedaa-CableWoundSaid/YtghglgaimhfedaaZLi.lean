/-
  Walks of chapter 1's pulls: the box of single currents, what drags carry, the iterator over pulls.
-/
import Derived.Test.YtghglgaimhfedaaQF
import Derived.Test.YtghglgaimhfedaaQB
import Derived.Laws.MakeOwn
import Derived.StillTailTactics
import Derived.Deep.MidRow
namespace Go.Proofs.Ytghglgaimhfedaa
open Go.RowKit Go.Shelf

/-! ### Rows of pairs that are written in place -/
def Row2 (W : World) (g : Nat) (xs : List (Int × Int)) : Prop := ∀ i (h : i < xs.length), At W ⟨g, i * 2, none⟩ (.int .i64 xs[i].1) ∧ At W ⟨g, i * 2 + 1, none⟩ (.int .i64 xs[i].2)
theorem Row2.set {W : World} {g : Nat} {xs : List (Int × Int)} (h : Row2 W g xs) (i : Nat) (hi : i < xs.length) (x y : Int) : Row2 ((W.setCell ⟨g, i * 2, none⟩ (.int .i64 x)).setCell ⟨g, i * 2 + 1, none⟩ (.int .i64 y)) g (xs.set i (x, y)) := by
  intro j hj
  have hj' : j < xs.length := by simpa using hj
  rw [List.getElem_set]
  by_cases e : i = j
  · subst e
    rw [if_pos rfl]
    exact ⟨((h i hi).1.set).other (by simp), ((h i hi).2.other (by simp)).set⟩
  · rw [if_neg e]
    exact ⟨((h j hj').1.other (by simp <;> omega)).other (by simp <;> omega), ((h j hj').2.other (by simp <;> omega)).other (by simp <;> omega)⟩
theorem Row2.sl {W : World} {g : Nat} {xs : List (Int × Int)} (h : Row2 W g xs) (hg : g < W.heap.size) : Sl e2 2 W (.slice (some ⟨g, 0, none⟩) xs.length xs.length) xs := by
  refine ⟨_, _, rfl, Nat.le_refl _, fun _ => ⟨g, 0, rfl, hg, fun i hi j hj => ?_⟩⟩
  obtain ⟨h1, h2⟩ := h i hi
  match j, hj with
  | 0, _ => simpa [e2] using h1.1
  | 1, _ => simpa [e2] using h2.1
theorem madeCells_at (n j : Nat) (h : j < n) : (madeCells #[.int .i64 0, .int .i64 0] n)[j]? = some (.int .i64 0) := by
  have h2 : j % 2 = 0 ∨ j % 2 = 1 := by omega
  simp only [madeCells, Array.getElem?_map]
  rw [Array.getElem?_eq_getElem (by simpa using h)]
  rcases h2 with h2 | h2 <;> simp [h2]
theorem Row2.made (W : World) (n : Nat) (t : TypeId) : Row2 (W.alloc (.cells (madeCells #[.int .i64 0, .int .i64 0] (n * 2)) t)) W.heap.size (List.replicate n (0, 0)) := by
  intro i hi
  have hi' : i < n := by simpa using hi
  simp only [List.getElem_replicate]
  exact ⟨At.new W _ t _ _ (madeCells_at _ _ (by omega)), At.new W _ t _ _ (madeCells_at _ _ (by omega))⟩
theorem Row2.below {W W' : World} {g : Nat} {xs : List (Int × Int)} (h : Row2 W g xs) (hb : Below W.heap.size W W') : Row2 W' g xs := fun i hi => ⟨(h i hi).1.below hb, (h i hi).2.below hb⟩

/-! ### still -/
def stl (c : List Int) (k : Nat) : List (Int × Int) := (still c).take k ++ List.replicate (c.length - k) (0, 0)
theorem stl_len (c : List Int) (k : Nat) (h : k ≤ c.length) : (stl c k).length = c.length := by simp [stl, still]; omega
theorem stl_set (c : List Int) (k : Nat) (h : k < c.length) : (stl c k).set k (c[k], c[k]) = stl c (k + 1) := by
  have hs : k < (still c).length := by simpa [still] using h
  unfold stl
  rw [List.take_succ_eq_append_getElem hs, List.set_append_right _ _ (by simp [still]; omega)]
  have : c.length - k = (c.length - (k + 1)) + 1 := by omega
  rw [this, List.replicate_succ]
  simp [still, Nat.min_eq_left (Nat.le_of_lt h)]
theorem stl_end (c : List Int) : stl c c.length = still c := by
  unfold stl
  rw [List.take_of_length_le (by simp [still])]
  simp
theorem rangeinfo : (Try.prog.info? 66).map (fun i => (i.zero, i.size, i.bytes)) = some (some (.agg #[.int .i64 0, .int .i64 0]), 2, 16) := by kernel_rfl
theorem run_made2 (w : World) (n : Nat) (hn : n ≤ 1000) : (Instr.makeSlice 27 (.int .i64 (n : Int)) (.int .i64 (n : Int))).run Try.prog w = .ok (.slice (some ⟨w.heap.size, 0, none⟩) n n) (w.alloc (.cells (madeCells #[.int .i64 0, .int .i64 0] (n * 2)) 66)) := by
  obtain ⟨i0, hi, hz0, hz1, hz2⟩ := info_parts rangeinfo
  have h := run_make (P := Try.prog) w 27 66 i0 _ (by kernel_rfl) hi hz0 .i64 .i64 n n (by omega) (Int.le_refl _) (by rw [hz2]; omega) (by omega)
  rw [hz1] at h
  simpa [Value.cells] using h
set_option maxHeartbeats 1000000 in
theorem still_any (v : Value) (c : List Int) (w : World) (hs : Sl e1 1 w v c) (hbig : c.length ≤ 1000) :
    Calls Try.prog 101 #[v] w fun e w' => ∃ r, e = .returned r ∧ Sl e2 2 w' r (still c) ∧ (∀ b, r.ownBlock = some b → w.heap.size ≤ b) ∧ Below w.heap.size w w' := by
  obtain ⟨A, cap, rfl, hcap⟩ := hs.form
  have HS := Lib.hid hs
  have HM := Lib.hid (fun w => run_made2 w c.length hbig)
  clear hs
  go_enter Try.func101, Try.ntmps101
  have hm := HM.out w
  go_wp2_with fail
  go_loopw [4, 5, 11] (fun _ _ i wr => ∃ k : Nat, k ≤ c.length ∧ i = .int .i64 k ∧ Row2 wr w.heap.size (stl c k) ∧ w.heap.size < wr.heap.size ∧ Below w.heap.size w wr) (fun _ _ i _ => c.length - (intOf i).toNat)
  case atStart =>
    refine ⟨0, Nat.zero_le _, rfl, ?_, by simp, below_alloc1 _ _⟩
    have := Row2.made w c.length 66
    simpa [stl] using this
  case round =>
    obtain ⟨k, hk, rfl, hrow, hsz, hb⟩ := hrel
    have HR := Lib.hid hrow
    have HB := Lib.hid hb
    by_cases hlt : k < c.length
    · obtain ⟨b, off, rfl, hbl, hc0⟩ := (HS.out.below hb).at1 hlt
      have hl2 : k < (stl c k).length := by rw [stl_len c k hk]; exact hlt
      obtain ⟨⟨d0, f0⟩, d1, f1⟩ := hrow k hl2
      have HN := Lib.hid (HR.out.set k hl2 c[k] c[k])
      rw [stl_set c k hlt] at HN
      clear hrow hb
      go_wp2_with fail
      go_roundw
      case rel => exact ⟨k + 1, by omega, by go_num, HN.out, by simpa using hsz, below_set (below_set HB.out (Nat.le_refl _) _) (Nat.le_refl _) _⟩
      case measure => simp [intOf]; omega
    · obtain rfl : k = c.length := by omega
      go_wp2_with fail
      go_ret
      refine ⟨_, rfl, ?_, fun b hb => ?_, HB.out⟩
      · have h := HR.out.sl hsz
        rw [stl_len c _ (Nat.le_refl _), stl_end] at h
        exact h
      · cases hb; exact Nat.le_refl _

/-! ### carried -/
theorem results_cell {fn : Func} {p : Tmp} {ty : TypeId} (h : fn.results = #[.cell p ty]) (tmps : Array Value) (P : Program) (w : World) :
    (results fn tmps).run P w = ((asAddr (tmps.getD p undef)).run P w).andThen fun a w1 => (loadVar ty a).run P w1 := by
  simp only [results, h]
  simp [Sem.run_bind]
def carr (ks : List Lk) (b : List (Int × Int)) (x : Int × Int) (i : Nat) : Nat → Int × Int
  | 0 => x
  | n + 1 => ((carr ks b x i n).1 + (ks.getD (i + n) (0, 0, 0)).2.2 * (b.getD (i + n) (0, 0)).1, (carr ks b x i n).2 + (ks.getD (i + n) (0, 0, 0)).2.2 * (b.getD (i + n) (0, 0)).2)
theorem carr_bd {l : Ln} {b : List (Int × Int)} (hl : LnOk l) (hb : BoxOk l b) (x : Int × Int) (B : Int) (hx : (-B ≤ x.1 ∧ x.1 ≤ B) ∧ (-B ≤ x.2 ∧ x.2 ≤ B)) (i n : Nat) (h : i + n ≤ l.ks.length) :
    (-(B + 1000 * n) ≤ (carr l.ks b x i n).1 ∧ (carr l.ks b x i n).1 ≤ B + 1000 * n) ∧ (-(B + 1000 * n) ≤ (carr l.ks b x i n).2 ∧ (carr l.ks b x i n).2 ≤ B + 1000 * n) := by
  induction n with
  | zero => simpa [carr] using hx
  | succ n ih =>
    have h1 := ih (by omega)
    have hk : i + n < l.ks.length := by omega
    have hk' : i + n < b.length := by rw [hb.len]; exact hk
    simp only [carr]
    rw [getD_eq _ _ _ hk, getD_eq _ _ _ hk']
    have k0 := hl.ok _ (List.getElem_mem hk)
    have b0 := hb.ok _ (List.getElem_mem hk')
    have m1 := mulz l.ks[i + n].2.2 b[i + n].1 (by omega) (by omega) (by omega) (by omega)
    have m2 := mulz l.ks[i + n].2.2 b[i + n].2 (by omega) (by omega) (by omega) (by omega)
    generalize l.ks[i + n].2.2 * b[i + n].1 = p1 at *
    generalize l.ks[i + n].2.2 * b[i + n].2 = p2 at *
    omega
set_option maxRecDepth 100000 in
set_option maxHeartbeats 2000000 in
theorem carried_any (v vb : Value) (l : Ln) (b : List (Int × Int)) (x : Int × Int) (i n : Nat) (upto : Int) (ht : upto = ((i + n : Nat) : Int)) (w : World) (hs : Sl e3 3 w v l.ks) (hu : Sl e2 2 w vb b) (hl : LnOk l) (hb : BoxOk l b)
    (hx : (-1000000 ≤ x.1 ∧ x.1 ≤ 1000000) ∧ (-1000000 ≤ x.2 ∧ x.2 ≤ 1000000)) (hn : i + n ≤ l.ks.length) :
    Calls Try.prog 141 #[.agg #[.int .i64 l.x, .int .i64 l.z, v], .agg #[.int .i64 x.1, .int .i64 x.2], .int .i64 (i : Int), .int .i64 upto, vb] w fun e w' =>
      e = .returned (.agg #[.int .i64 (carr l.ks b x i n).1, .int .i64 (carr l.ks b x i n).2]) ∧ Below w.heap.size w w' := by
  obtain ⟨A, c, rfl, hcap⟩ := hs.form
  obtain ⟨A', c', rfl, hcap'⟩ := hu.form
  have HS := Lib.hid hs
  have HU := Lib.hid hu
  have HL := Lib.hid hl
  have HB := Lib.hid hb
  have HBD := Lib.hid (carr_bd hl hb x 1000000 hx i)
  have HT := Lib.hid ht
  clear ht
  have hn1 := hl.n1
  clear hs hu hl hb
  go_enter Try.func141, Try.ntmps141
  go_wp2_with fail
  obtain ⟨R0, hR0⟩ : ∃ R0, R0 = w.heap.size + 2 := ⟨_, rfl⟩
  go_loopw [11] (fun j wr => ∃ k m : Nat, k ≤ n ∧ m = i + k ∧ j = .int .i64 (m : Int) ∧ (At wr ⟨w.heap.size + 1, 0, none⟩ (.int .i64 (carr l.ks b x i k).1) ∧ At wr ⟨w.heap.size + 1, 1, none⟩ (.int .i64 (carr l.ks b x i k).2)) ∧
      At wr ⟨w.heap.size, 2, none⟩ (.slice A l.ks.length c) ∧ (At wr ⟨w.heap.size + 2, 0, none⟩ (.int .i64 0) ∧ At wr ⟨w.heap.size + 2, 1, none⟩ (.int .i64 0)) ∧ Below w.heap.size w wr) (fun j _ => i + n - (intOf j).toNat)
  case atStart =>
    obtain ⟨x1, y1⟩ := box2 w #[.int .i64 l.x, .int .i64 l.z, .slice A l.ks.length c] #[.int .i64 x.1, .int .i64 x.2] 137 66
    have z1 := fun j v h => At.new ((w.alloc (.cells #[.int .i64 l.x, .int .i64 l.z, .slice A l.ks.length c] 137)).alloc (.cells #[.int .i64 x.1, .int .i64 x.2] 66)) #[.int .i64 0, .int .i64 0] 66 j v h
    refine ⟨0, i, Nat.zero_le _, rfl, rfl, ⟨(y1 0 _ rfl).al _, (y1 1 _ rfl).al _⟩, (x1 2 _ rfl).al _, ⟨by simpa using z1 0 _ rfl, by simpa using z1 1 _ rfl⟩, below_al (below_al (below_alloc1 _ _) _) _⟩
  case round =>
    obtain ⟨k, m, hk, hm, rfl, ⟨hx0, hx1⟩, hq, ⟨hr0, hr1⟩, hb⟩ := hrel
    have HK := Lib.hid (And.intro hx0 (And.intro hx1 (And.intro hq (And.intro hr0 hr1))))
    have HBl := Lib.hid hb
    have xc0 := hx0.1
    have xc1 := hx1.1
    have xf0 := hx0.2
    have xf1 := hx1.2
    have qc := hq.1
    have rc0 := hr0.1
    have rc1 := hr1.1
    have rf0 := hr0.2
    have rf1 := hr1.2
    obtain ⟨⟨g1, g2⟩, g3, g4⟩ := HBD.out k (by omega)
    by_cases hlt : k < n
    · have hlk : m < l.ks.length := by omega
      have hlb : m < b.length := by rw [HB.out.len]; exact hlk
      obtain ⟨B1, off, rfl, hbl, hc0', hc1', hc2'⟩ := HS.out.at3 hlk
      obtain ⟨B2, off', rfl, hbl', hd0', hd1'⟩ := HU.out.at2 hlb
      have hc2 := (hb.cell (p := ⟨B1, off + m * 3 + 2, none⟩) hbl).trans hc2'
      have hd0 := (hb.cell (p := ⟨B2, off' + m * 2, none⟩) hbl').trans hd0'
      have hd1 := (hb.cell (p := ⟨B2, off' + m * 2 + 1, none⟩) hbl').trans hd1'
      have k0 := HL.out.ok _ (List.getElem_mem hlk)
      have b0 := HB.out.ok _ (List.getElem_mem hlb)
      obtain ⟨m1, m2⟩ := mulz l.ks[m].2.2 b[m].1 (by omega) (by omega) (by omega) (by omega)
      obtain ⟨m3, m4⟩ := mulz l.ks[m].2.2 b[m].2 (by omega) (by omega) (by omega) (by omega)
      have hcs : carr l.ks b x i (k + 1) = ((carr l.ks b x i k).1 + l.ks[m].2.2 * b[m].1, (carr l.ks b x i k).2 + l.ks[m].2.2 * b[m].2) := by
        simp only [carr]; rw [← hm, getD_eq _ _ _ hlk, getD_eq _ _ _ hlb]
      have HC := Lib.hid hcs
      have hmn : (m : Int) < upto := by have := HT.out; omega
      have hml : (m : Int) < (l.ks.length : Int) := by omega
      have hmb : (m : Int) < (b.length : Int) := by omega
      have Hm := Lib.hid hm
      clear hb hx0 hx1 hq hr0 hr1 hcs hm
      generalize carr l.ks b x i k = y at *
      generalize l.ks[m].2.2 = dr at *
      generalize b[m] = bb at *
      obtain ⟨y1, y2⟩ := y
      obtain ⟨b1, b2⟩ := bb
      simp only at *
      go_wp2_with fail
      have hw1 : IntKind.i64.wrap (dr * b1) = dr * b1 := IntWalk.i64_in _ (by omega)
      have hw2 : IntKind.i64.wrap (dr * b2) = dr * b2 := IntWalk.i64_in _ (by omega)
      have hw3 : IntKind.i64.wrap (y1 + dr * b1) = y1 + dr * b1 := IntWalk.i64_in _ (by omega)
      have hw4 : IntKind.i64.wrap (y2 + dr * b2) = y2 + dr * b2 := IntWalk.i64_in _ (by omega)
      go_still_tail 17, (by kernel_rfl)
      go_wp2_with fail
      obtain ⟨W1, hW1⟩ : ∃ W1, W1 = (wr.setCell ⟨w.heap.size + 1, 0, none⟩ (.int .i64 (y1 + dr * b1))).drew := ⟨_, rfl⟩
      rw [← hW1]
      have HB1 : Hid (Below w.heap.size w W1) := by rw [hW1]; exact (below_set HBl.out (by simp) _).drew
      have A0 : At W1 ⟨w.heap.size + 1, 0, none⟩ (.int .i64 (y1 + dr * b1)) := by rw [hW1]; exact (HK.out.1.set).drew
      have A1 : At W1 ⟨w.heap.size + 1, 1, none⟩ (.int .i64 y2) := by rw [hW1]; exact (HK.out.2.1.other (by simp)).drew
      have A2 : At W1 ⟨w.heap.size, 2, none⟩ (.slice (some ⟨B1, off, none⟩) l.ks.length c) := by rw [hW1]; exact (HK.out.2.2.1.other (by simp)).drew
      have A3 : At W1 ⟨w.heap.size + 2, 0, none⟩ (.int .i64 0) := by rw [hW1]; exact (HK.out.2.2.2.1.other (by simp)).drew
      have A4 : At W1 ⟨w.heap.size + 2, 1, none⟩ (.int .i64 0) := by rw [hW1]; exact (HK.out.2.2.2.2.other (by simp)).drew
      clear xc0 xc1 xf0 xf1 qc rc0 rc1 rf0 rf1 hc2 hd0 hd1 HK hW1
      have hc2 := (HB1.out.cell (p := ⟨B1, off + m * 3 + 2, none⟩) hbl).trans hc2'
      have hd1 := (HB1.out.cell (p := ⟨B2, off' + m * 2 + 1, none⟩) hbl').trans hd1'
      have xc1 := A1.1
      have xf1 := A1.2
      have qc := A2.1
      go_still_tail 17, (by kernel_rfl)
      go_wp2_with fail
      go_roundw
      case rel => exact ⟨k + 1, m + 1, by omega, by have := Hm.out; omega, by go_num, ⟨by rw [HC.out]; exact (A0.other (by simp)).drew, by rw [HC.out]; exact (A1.set).drew⟩, (A2.other (by simp)).drew, ⟨(A3.other (by simp)).drew, (A4.other (by simp)).drew⟩, (below_set HB1.out (by simp) _).drew⟩
      case measure => have := Hm.out; simp [intOf]; omega
    · obtain rfl : k = n := by omega
      have hmn : ¬ (m : Int) < upto := by have := HT.out; omega
      obtain ⟨y, hy⟩ : ∃ y, carr l.ks b x i k = y := ⟨_, rfl⟩
      rw [hy] at g1 g2 g3 g4 xc0 xc1
      have HY := Lib.hid hy
      clear hy HK
      obtain ⟨y1, y2⟩ := y
      simp only at *
      clear hb hx0 hx1 hq hr0 hr1
      go_wp2_with fail
      refine bodyPost_ret (v := .agg #[.int .i64 y1, .int .i64 y2]) ?_ rfl ⟨?_, ?_⟩
      · rw [results_cell rfl]
        go_simp
      · rw [HY.out]
      · exact below_set (below_set HBl.out (by simp; omega) _) (by simp; omega) _

/-! ### pulls -/
def encP (p : Pl) : Array Value := #[.agg #[.int .i64 p.h, .int .i64 p.wt, .int .i64 p.d, .int .i64 p.lo, .int .i64 p.hi, .int .i64 p.z]]
theorem pulls_any (l : Ln) (v vb : Value) (w : World) (hv : ∃ A n c, v = .slice A n c) (hvb : ∃ A n c, vb = .slice A n c) :
    Calls Try.prog 100 #[.agg #[.int .i64 l.x, .int .i64 l.z, v], vb] w fun e w' => e = .returned (.func (.func 140) #[] #[.pointer (some ⟨w.heap.size, 0, none⟩), .pointer (some ⟨w.heap.size + 1, 0, none⟩)]) ∧
      (w.alloc (.cells #[.int .i64 l.x, .int .i64 l.z, v] 137)).alloc (.cells #[vb] 27) = w' := by
  obtain ⟨A, n, c, rfl⟩ := hv
  obtain ⟨A', n', c', rfl⟩ := hvb
  go_enter Try.func100, Try.ntmps100
  go_wp2
  go_ret
  exact ⟨rfl, rfl⟩
theorem pulls_len {l : Ln} {b : List (Int × Int)} (hb : BoxOk l b) : (pulls l b).length = l.ks.length := pullsF_len _ _ _ _ _ hb.len
theorem pullsF_zs (lo hi z : Int) (ks : List Lk) (b : List (Int × Int)) (h : b.length = ks.length) : (pullsF lo hi z ks b).map (·.z) = zsF z ks := by
  induction ks generalizing lo hi z b with
  | nil => cases b <;> rfl
  | cons k r ih =>
    cases b with
    | nil => simp at h
    | cons q b => simp [pullsF, zsF, ih _ _ _ b (by simpa using h)]
/-- X below the link k. -/
def xb (l : Ln) (b : List (Int × Int)) (k : Nat) : Int × Int := ((l.x, l.x) :: (pulls l b).map fun p => (p.lo, p.hi)).getD k (0, 0)
theorem pullsF_xb (lo hi z : Int) (ks : List Lk) (b : List (Int × Int)) (i : Nat) :
    ((lo, hi) :: (pullsF lo hi z ks b).map fun p => (p.lo, p.hi)).getD i (0, 0) = ((((lo, hi, z) :: (pullsF lo hi z ks b).map fun p => (p.lo, p.hi, p.z)).getD i (0, 0, 0)).1, (((lo, hi, z) :: (pullsF lo hi z ks b).map fun p => (p.lo, p.hi, p.z)).getD i (0, 0, 0)).2.1) := by
  cases i with
  | zero => rfl
  | succ i =>
    rw [List.getD_cons_succ, List.getD_cons_succ]
    simp only [List.getD_eq_getElem?_getD, List.getElem?_map]
    cases (pullsF lo hi z ks b)[i]? <;> rfl
theorem pulls_succ {l : Ln} {b : List (Int × Int)} (hb : BoxOk l b) (k : Nat) (hk : k < l.ks.length) (hk' : k < (pulls l b).length) :
    (pulls l b)[k] = ⟨l.ks[k].1, l.ks[k].2.1, l.ks[k].2.2, (carr l.ks b (xb l b k) k 1).1, (carr l.ks b (xb l b k) k 1).2, zb l (k + 1)⟩ ∧ xb l b (k + 1) = carr l.ks b (xb l b k) k 1 := by
  have h1 := pullsF_at l.x l.x l.z l.ks b hb.len k hk
  have h2 := pullsF_xb l.x l.x l.z l.ks b k
  have hg : (pulls l b)[k]? = some (pulls l b)[k] := List.getElem?_eq_getElem hk'
  have hkb : k < b.length := by rw [hb.len]; exact hk
  have hz : (pulls l b)[k].z = zb l (k + 1) := by
    have h3 := pullsF_zs l.x l.x l.z l.ks b hb.len
    have h4 : (zs l)[k]? = some (pulls l b)[k].z := by
      show (zsF l.z l.ks)[k]? = _
      rw [← h3, List.getElem?_map]
      show ((pulls l b)[k]?).map _ = _
      rw [hg]; rfl
    unfold zb
    rw [List.getD_cons_succ, List.getD_eq_getElem?_getD, h4]
    rfl
  have e : (pulls l b)[k] = ⟨l.ks[k].1, l.ks[k].2.1, l.ks[k].2.2, (carr l.ks b (xb l b k) k 1).1, (carr l.ks b (xb l b k) k 1).2, zb l (k + 1)⟩ := by
    have h5 : (pulls l b)[k]? = _ := h1
    rw [hg] at h5
    injection h5 with h5
    rw [← hz, h5]
    simp only [carr, Nat.add_zero]
    have h6 : xb l b k = _ := h2
    rw [h6, getD_eq _ _ _ hk]
  refine ⟨e, ?_⟩
  show ((l.x, l.x) :: (pulls l b).map fun p => (p.lo, p.hi)).getD (k + 1) (0, 0) = _
  rw [List.getD_cons_succ, List.getD_eq_getElem?_getD, List.getElem?_map, hg, e]
  rfl
theorem xb_bd {l : Ln} {b : List (Int × Int)} (hl : LnOk l) (hb : BoxOk l b) (k : Nat) (hk : k ≤ l.ks.length) : (-20000 ≤ (xb l b k).1 ∧ (xb l b k).1 ≤ 20000) ∧ (-20000 ≤ (xb l b k).2 ∧ (xb l b k).2 ≤ 20000) := by
  cases k with
  | zero => have := hl.x0; have := hl.x1; simp [xb]; omega
  | succ k =>
    have hk' : k < (pulls l b).length := by rw [pulls_len hb]; omega
    obtain ⟨e, e2⟩ := pulls_succ hb k (by omega) hk'
    have := pulls_ok hl hb _ (List.getElem_mem hk')
    rw [e] at this
    rw [e2]
    exact ⟨⟨this.l0, this.l1⟩, this.u0, this.u1⟩
end Go.Proofs.Ytghglgaimhfedaa
