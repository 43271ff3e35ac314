/-
  Walks of chapter 1's reference: the offsets of the links.
-/
import Derived.Test.YtghglgaimhfedaaZNb
import Derived.Test.YtghglgaimhfedaaQL
namespace Go.Proofs.Ytghglgaimhfedaa
open Go.RowKit Go.Shelf
attribute [local go_sem] monoUpon_value monoUpon_skip monoUpon_enter

theorem offs_at (l : Ln) (c : List Int) (hc : c.length = l.ks.length) (k : Nat) (hk : k < l.ks.length) (hk2 : k < (tens l c).length) :
    (offs l c)[k]? = some (low (l.ks[k].1 * ((tens l c)[k]).1) ((tens l c)[k]).2) := by
  have h := pullsF_at l.x l.x l.z l.ks (still c) (by simp [still, hc]) k hk
  obtain ⟨p, hp, hph⟩ : ∃ p : Pl, (pulls l (still c))[k]? = some p ∧ p.h = l.ks[k].1 := ⟨_, h, rfl⟩
  have e : (tens l c)[k]? = some (p.lo, p.z) := by
    rw [← tensions_eq, tensions, List.getElem?_map, hp]; rfl
  rw [List.getElem?_eq_getElem hk2] at e
  have e' := Option.some.inj e
  rw [offs, List.getElem?_map, hp, e', ← hph]
  rfl
theorem offs_len (l : Ln) (c : List Int) (hc : c.length = l.ks.length) : (offs l c).length = l.ks.length := by
  rw [offs, List.length_map]; exact pullsF_len _ _ _ _ _ (by simp [still, hc])
set_option maxHeartbeats 1000000 in
theorem rOffset_any (h : Int) (t : Int × Int) (w : World) (hh : 1 ≤ h ∧ h ≤ 1000) (h1 : -20000 ≤ t.1 ∧ t.1 ≤ 20000) (h2 : 0 < t.2 ∧ t.2 ≤ 20000) :
    Calls Try.prog 112 #[.int .i64 h, .agg #[.int .i64 t.1, .int .i64 t.2]] w fun e w' => e = .returned (.agg #[.int .i64 (low (h * t.1) t.2).1, .int .i64 (low (h * t.1) t.2).2]) ∧ Below w.heap.size w w' := by
  have hm := mul_bd h t.1 1000 20000 (by omega) h1
  have HL := Lib.hid (fun w => rLowest_any (h * t.1) t.2 w h2.1 (by omega) (by omega))
  have hw1 : IntKind.i64.wrap (h * t.1) = h * t.1 := IntWalk.i64_in _ (by omega)
  obtain ⟨t1, t2⟩ := t
  simp only at *
  generalize low (h * t1) t2 = lw at *
  obtain ⟨lw1, lw2⟩ := lw
  simp only at *
  obtain ⟨bx, by'⟩ := box2 w #[.int .i64 t1, .int .i64 t2] #[.int .i64 0, .int .i64 0] 23 75
  have HX := Lib.hid (And.intro (by' 0 _ rfl) (by' 1 _ rfl))
  obtain ⟨W0, hW0⟩ : ∃ W0, W0 = (w.alloc (.cells #[.int .i64 t1, .int .i64 t2] 23)).alloc (.cells #[.int .i64 0, .int .i64 0] 75) := ⟨_, rfl⟩
  have HB0 : Hid (Below w.heap.size w W0) := by rw [hW0]; exact below_al (below_alloc1 _ _) _
  have z0 : W0.heap.size = w.heap.size + 2 := by rw [hW0]; simp
  rw [← hW0] at HX
  have b0 : W0.cell? ⟨w.heap.size, 0, none⟩ = some (.int .i64 t1) := by rw [hW0]; exact (bx 0 _ rfl).1
  have b1 : W0.cell? ⟨w.heap.size, 1, none⟩ = some (.int .i64 t2) := by rw [hW0]; exact (bx 1 _ rfl).1
  clear bx by'
  go_enter Try.func112, Try.ntmps112
  go_wp2_with (first
    | (rw [← hW0]; clear hW0)
    | (go_at_call 111; refine (HL.out _).mono ?_; rintro e w1 ⟨rfl, hb1⟩; have R0 := HX.out.1.below hb1; have R1 := HX.out.2.below hb1; have HR := Lib.hid (And.intro R0 R1); obtain ⟨r0, f0⟩ := R0; obtain ⟨r1, f1⟩ := R1; have HB1 := Lib.hid (below_tr HB0.out hb1); clear hb1))
  obtain ⟨W5, hW5⟩ : ∃ W5, W5 = (w1.setCell ⟨w.heap.size + 1, 0, none⟩ (.int .i64 lw1)).setCell ⟨w.heap.size + 1, 1, none⟩ (.int .i64 lw2) := ⟨_, rfl⟩
  rw [← hW5]
  obtain ⟨s0, _⟩ : At W5 ⟨w.heap.size + 1, 0, none⟩ (.int .i64 lw1) := by rw [hW5]; exact (HR.out.1.set).other (by simp)
  obtain ⟨s1, _⟩ : At W5 ⟨w.heap.size + 1, 1, none⟩ (.int .i64 lw2) := by rw [hW5]; exact (HR.out.2.other (by simp)).set
  have HB5 : Below w.heap.size w W5 := by rw [hW5]; exact below_set (below_set HB1.out (by simp) _) (by simp) _
  clear hW5
  (try simp only [Exit.inBlock, Exit.then])
  refine bodyPost_ret (v := .agg #[.int .i64 lw1, .int .i64 lw2]) ?_ rfl ⟨rfl, HB5⟩
  rw [results_cell rfl]
  go_simp
set_option maxRecDepth 100000 in
set_option maxHeartbeats 1000000 in
theorem rOffsets_any (v u : Value) (l : Ln) (cu : List Int) (w : World) (hs : Sl e3 3 w v l.ks) (hu : Sl e1 1 w u cu) (hl : LnOk l) (hc : CuOk l cu) (hz : ∀ t ∈ tens l cu, 0 < t.2) :
    Calls Try.prog 48 #[.agg #[.int .i64 l.x, .int .i64 l.z, v], u] w fun e w' => ∃ r, e = .returned r ∧ Ow e2 2 75 w.heap.size w' r (offs l cu) ∧ Below w.heap.size w w' := by
  obtain ⟨i0, hi, hz0, hz1, hz2⟩ := info_parts fracinfo
  have HT := Lib.hid (Tensions_any v u l cu _ (hs.alloc (.cells #[.int .i64 l.x, .int .i64 l.z, v] 26)) (hu.alloc (.cells #[.int .i64 l.x, .int .i64 l.z, v] 26)) hl hc)
  have HSL := Lib.hid (hs.alloc (.cells #[.int .i64 l.x, .int .i64 l.z, v] 26))
  obtain ⟨A, c, rfl, hcap⟩ := hs.form
  obtain ⟨A', c', rfl, hcap'⟩ := hu.form
  have hbd := tens_bd hl hc
  have hlen := tens_len l cu hc.len
  have HAT := Lib.hid (fun k h1 h2 => offs_at l cu hc.len k h1 h2)
  have hol := offs_len l cu hc.len
  have HBD := Lib.hid (And.intro hbd (And.intro hz hl.ok))
  have hn0 : 0 < (tens l cu).length := by rw [hlen]; exact hl.n0
  have hn1 := hl.n1
  have HLN := Lib.hid (And.intro hlen hol)
  clear hs hu hbd hl hc hz hcap hcap' hlen hol
  generalize tens l cu = ts at *
  generalize offs l cu = os at *
  have hn2 : ts.length ≤ 10 := by rw [HLN.out.1]; exact hn1
  have HLW : Hid (∀ j (u : Value), #[Value.int .i64 l.x, .int .i64 l.z, .slice A l.ks.length c][j]? = some u → At (w.alloc (.cells #[.int .i64 l.x, .int .i64 l.z, .slice A l.ks.length c] 26)) ⟨w.heap.size, j, none⟩ u) := At.new w #[.int .i64 l.x, .int .i64 l.z, .slice A l.ks.length c] 26
  go_enter Try.func48, Try.ntmps48
  go_wp2_with (go_at_call 38; refine HT.out.mono ?_; rintro e w2 ⟨r, rfl, ho, hb2⟩; have HSB := Lib.hid (ho.sl e2_len); obtain ⟨Ab, ct, rfl, hct⟩ := HSB.out.form; obtain ⟨bt, ot, rfl, hbt, _⟩ := HSB.out.raw (k := 0) hn0; have HSX := Lib.hid (HSL.out.below hb2); have HLX := Lib.hid ((HLW.out 2 _ rfl).below hb2); have hwl : w.heap.size < w2.heap.size := (by have := hb2.size; simp at this; omega); have HB2 := Lib.hid (below_tr (below_alloc1 _ _) hb2); clear hb2 ho)
  go_loopw [5, 7] (fun r i wr => ∃ k : Nat, k ≤ ts.length ∧ i = .int .i64 k ∧ Ow e2 2 75 w2.heap.size wr r (os.take k) ∧ Below w2.heap.size w2 wr) (fun _ i _ => ts.length - (intOf i).toNat)
  case atStart => exact ⟨0, Nat.zero_le _, rfl, by simpa using Ow.nil _ _ _ _ _, Below.refl _ _⟩
  case round =>
    obtain ⟨k, hk, rfl, hown, hb⟩ := hrel
    have HO := Lib.hid hown
    have HB := Lib.hid hb
    clear hown
    by_cases hlt : k < ts.length
    · have hltl : k < l.ks.length := by rw [← HLN.out.1]; exact hlt
      have hlto : k < os.length := by rw [HLN.out.2]; exact hltl
      obtain ⟨bl, ol, rfl, hbl, _⟩ := HSX.out.raw (k := k) hltl
      have HST := Lib.hid (fun W (h : Below w2.heap.size w2 W) => (HSB.out.below h).at2 (k := k) hlt)
      have HSK := Lib.hid (fun W (h : Below w2.heap.size w2 W) => (HSX.out.below h).at3 (k := k) hltl)
      have hat := HAT.out k hltl hlt
      rw [List.getElem?_eq_getElem hlto] at hat
      have htk := List.take_succ_eq_append_getElem (l := os) (i := k) hlto
      rw [Option.some.inj hat] at htk
      have hta := HBD.out.1 ts[k] (List.getElem_mem _)
      have htb := HBD.out.2.1 ts[k] (List.getElem_mem _)
      have hkk := HBD.out.2.2 l.ks[k] (List.getElem_mem _)
      have HK := Lib.hid (fun w => rOffset_any l.ks[k].1 ts[k] w ⟨hkk.1, hkk.2.1⟩ hta.1 ⟨htb, hta.2.2⟩)
      have hkt : (k : Int) < (ts.length : Int) := by omega
      have hkl : (k : Int) < (l.ks.length : Int) := by omega
      have hk0 : (0 : Int) ≤ (k : Int) := by omega
      have hacc : (os.take k).length ≤ 10 := Nat.le_trans (List.length_take_le _ _) (by omega)
      clear hb hat hta htb hkk
      generalize ts[k] = t at *
      generalize l.ks[k] = kk at *
      generalize low (kk.1 * t.1) t.2 = lw at *
      obtain ⟨t1, t2⟩ := t
      obtain ⟨k1, k2, k3⟩ := kk
      obtain ⟨lw1, lw2⟩ := lw
      simp only at *
      have HTK := Lib.hid htk
      clear htk
      generalize os.take k = acc at *
      have HX : Hid (∀ W, Below wr.drew.heap.size wr.drew W → (W.cell? ⟨bt, ot + k * 2, none⟩ = some (.int .i64 t1) ∧ W.cell? ⟨bt, ot + k * 2 + 1, none⟩ = some (.int .i64 t2)) ∧ W.cell? ⟨bl, ol + k * 3, none⟩ = some (.int .i64 k1) ∧ W.cell? ⟨w.heap.size, 2, none⟩ = some (.slice (some ⟨bl, ol, none⟩) l.ks.length c) ∧ Ow e2 2 75 w2.heap.size W u5 acc ∧ Below w2.heap.size w2 W) := by
        intro W hW
        have hb0 : Below wr.heap.size wr W := Below.trans (Below.drew (Below.refl _ _)) hW
        have hb' : Below w2.heap.size w2 W := below_tr HB.out hb0
        obtain ⟨b0, o0, e0, _, ca1, ca2⟩ := HST.out W hb'
        injection e0 with e0
        injection e0 with e01 e02
        subst e01; subst e02
        obtain ⟨b0, o0, e0, _, cb1, cb2⟩ := HSK.out W hb'
        injection e0 with e0
        injection e0 with e01 e02
        subst e01; subst e02
        exact ⟨⟨ca1, ca2⟩, cb1, (HLX.out.below hb').1, HO.out.below hb0, hb'⟩
      go_wp2_with fail
      refine wp_region_mono 13 [17, 18, 19, 20, 21, 22, 23, 24, 25, 26, 27, 28, 29] [[], [], [1], [], [2, 3], [4], [5], [], [], [7, 8], [9], [6, 10], [11]] [fun v _ => v = u5, fun v _ => v = .pointer (some ⟨w.heap.size, 2, none⟩), fun v _ => v = .slice (some ⟨bl, ol, none⟩) l.ks.length c, fun v _ => v = .int .i64 k, fun v _ => v = .pointer (some ⟨bl, ol + k * 3, none⟩), fun v _ => v = .pointer (some ⟨bl, ol + k * 3, none⟩), fun v _ => v = .int .i64 k1, fun v _ => v = .slice (some ⟨bt, ot, none⟩) ts.length ct, fun v _ => v = .int .i64 k, fun v _ => v = .pointer (some ⟨bt, ot + k * 2, none⟩), fun v _ => v = .agg #[.int .i64 t1, .int .i64 t2], fun v _ => v = .agg #[.int .i64 lw1, .int .i64 lw2], fun v w => Sl e2 2 w v [(lw1, lw2)]] (by kernel_rfl) (by kernel_rfl) ⟨st_eq _, st_eq _, st_eq _, st_eq _, st_eq _, st_eq _, st_eq _, st_eq _, st_eq _, st_eq _, st_eq _, st_eq _, st_sl _ _ _, trivial⟩ ?_ ?_
      · simp only [List.take_succ_cons, List.take_zero, steps, and_true]
        refine ⟨?_, ?_, ?_, ?_, ?_, ?_, ?_, ?_, ?_, ?_, ?_, ?_, ?_⟩
        · intro x W hB _; simp only [putX, setX, List.foldl_cons, List.foldl_nil]; refine ⟨?_⟩; go_simp; exact ⟨rfl, Below.refl _ _⟩
        · intro x W hB _; simp only [putX, setX, List.foldl_cons, List.foldl_nil]; refine ⟨?_⟩; go_simp; exact ⟨rfl, Below.refl _ _⟩
        · intro x W hB hN; simp only [needs, sAt, dAt] at hN; simp only [putX, setX, List.foldl_cons, List.foldl_nil]; obtain ⟨⟨c0, c1⟩, c2, c3, _⟩ := HX.out W hB; refine ⟨?_⟩; go_simp; exact ⟨rfl, Below.refl _ _⟩
        · intro x W hB _; simp only [putX, setX, List.foldl_cons, List.foldl_nil]; refine ⟨?_⟩; go_simp; exact ⟨rfl, Below.refl _ _⟩
        · intro x W hB hN; simp only [needs, sAt, dAt] at hN; simp only [putX, setX, List.foldl_cons, List.foldl_nil]; refine ⟨?_⟩; go_simp; exact ⟨rfl, Below.refl _ _⟩
        · intro x W hB hN; simp only [needs, sAt, dAt] at hN; simp only [putX, setX, List.foldl_cons, List.foldl_nil]; refine ⟨?_⟩; go_simp; exact ⟨rfl, Below.refl _ _⟩
        · intro x W hB hN; simp only [needs, sAt, dAt] at hN; simp only [putX, setX, List.foldl_cons, List.foldl_nil]; obtain ⟨⟨c0, c1⟩, c2, c3, _⟩ := HX.out W hB; refine ⟨?_⟩; go_simp; exact ⟨rfl, Below.refl _ _⟩
        · intro x W hB _; simp only [putX, setX, List.foldl_cons, List.foldl_nil]; refine ⟨?_⟩; go_simp; exact ⟨rfl, Below.refl _ _⟩
        · intro x W hB _; simp only [putX, setX, List.foldl_cons, List.foldl_nil]; refine ⟨?_⟩; go_simp; exact ⟨rfl, Below.refl _ _⟩
        · intro x W hB hN; simp only [needs, sAt, dAt] at hN; simp only [putX, setX, List.foldl_cons, List.foldl_nil]; refine ⟨?_⟩; go_simp; exact ⟨rfl, Below.refl _ _⟩
        · intro x W hB hN; simp only [needs, sAt, dAt] at hN; simp only [putX, setX, List.foldl_cons, List.foldl_nil]; obtain ⟨⟨c0, c1⟩, c2, c3, _⟩ := HX.out W hB; refine ⟨?_⟩; go_simp; exact ⟨rfl, Below.refl _ _⟩
        · intro x W hB hN; simp only [needs, sAt, dAt] at hN; simp only [putX, setX, List.foldl_cons, List.foldl_nil]; refine ⟨?_⟩; go_simp; refine (HK.out _).mono ?_; rintro e w' ⟨rfl, hb⟩; exact ⟨_, rfl, rfl, hb⟩
        · intro x W hB hN; simp only [needs, sAt, dAt] at hN; simp only [putX, setX, List.foldl_cons, List.foldl_nil]; refine ⟨?_⟩; go_simp; exact ⟨slp _ _ _, below_alloc1 _ _⟩
      · intro x W hB hA
        simp only [allSp] at hA
        have q0 := hA.1
        have q1 := hA.2.2.2.2.2.2.2.2.2.2.2.2.1
        obtain ⟨A1, c1, e1', _⟩ := q1.form
        rw [e1'] at q1
        obtain ⟨_, _, _, ho, hbW⟩ := HX.out W hB
        clear hA
        simp only [putX, setX, List.foldl_cons, List.foldl_nil, List.drop_succ_cons, List.drop_zero, q0, e1', List.setIfInBounds_toArray, List.set_cons_succ, List.set_cons_zero]
        go_wp2_with (at_builtin; refine wpList_append_sl _ rfl _ _ 69 rfl w2.heap.size 75 i0 _ 2 16 Try.underlying69 hi hz0 hz1 hz2 rfl (by decide) e2_len e2_one _ acc rfl ho A1 1 c1 [(lw1, lw2)] rfl q1 (by simp; omega) (by decide) hbW.size ?_; intro v1 w4 ho4 hg4)
        have HO4 := Lib.hid ho4
        have HB4 := Lib.hid (ho.grown hg4 hbW (Nat.le_refl _))
        clear ho4 hg4 ho hbW
        go_roundw
        case rel => exact ⟨k + 1, by omega, by go_num, by rw [HTK.out]; exact HO4.out, HB4.out⟩
        case measure => simp [intOf]; omega
    · obtain rfl : k = ts.length := by omega
      have hfin : os.take ts.length = os := List.take_of_length_le (by rw [HLN.out.1, HLN.out.2]; exact Nat.le_refl _)
      rw [hfin] at HO
      clear hb hfin
      go_wp2_with fail
      go_ret
      exact ⟨_, rfl, HO.out.less HB2.out.size, below_tr HB2.out HB.out⟩
end Go.Proofs.Ytghglgaimhfedaa
