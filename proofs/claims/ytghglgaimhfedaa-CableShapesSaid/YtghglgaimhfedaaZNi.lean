/-
  Walks of chapter 1's reference: the length of a line.
-/
import Derived.Test.YtghglgaimhfedaaZNj
namespace Go.Proofs.Ytghglgaimhfedaa
open Go.RowKit Go.Shelf
attribute [local go_sem] monoUpon_value monoUpon_skip monoUpon_enter

theorem addr_ne {a b o p : Nat} (h : a ≠ b) : (⟨a, o, none⟩ : Addr) ≠ ⟨b, p, none⟩ := fun e => h (by injection e)
theorem addr_ne2 {a b o p : Nat} (h : o ≠ p) : (⟨a, o, none⟩ : Addr) ≠ ⟨b, p, none⟩ := fun e => h (by injection e)
theorem Sl.setOther {α : Type} {enc : α → List Value} {s : Nat} {w : World} {b off n c : Nat} {xs : List α} (h : Sl enc s w (.slice (some ⟨b, off, none⟩) n c) xs) {p : Addr} (hp : p.block ≠ b) (u : Value) : Sl enc s (w.setCell p u) (.slice (some ⟨b, off, none⟩) n c) xs := by
  obtain ⟨A, c', h1, h2, h3⟩ := h
  injection h1 with hA hn hc
  subst hA; subst hc
  refine ⟨_, _, by rw [hn], h2, fun hx => ?_⟩
  obtain ⟨b', off', e, h4, h5⟩ := h3 hx
  injection e with e
  injection e with e1' e2'
  subst e1'; subst e2'
  exact ⟨_, _, rfl, by simpa using h4, fun i hi j hj => (World.cell?_setCell_other w p _ u (fun e => hp (by rw [e]))).trans (h5 i hi j hj)⟩
theorem len_at {l : Ln} {c : List Int} (hl : LnOk l) (hb : BoxOk l (still c)) (hc : c.length = l.ks.length) (hz : ∀ p ∈ pulls l (still c), 0 < p.z) (k : Nat) (hk : k < l.ks.length) (hk2 : k < (tens l c).length) (hk3 : k < (pulls l (still c)).length) :
    lenR (pulls l (still c))[k] = longR l.ks[k].1 (tens l c)[k] := by
  have h := pullsF_at l.x l.x l.z l.ks (still c) (by simp [still, hc]) k hk
  have h' : (pulls l (still c))[k]? = some (pulls l (still c))[k] := List.getElem?_eq_getElem hk3
  have e : (tens l c)[k]? = some ((pulls l (still c))[k].lo, (pulls l (still c))[k].z) := by rw [← tensions_eq, tensions, List.getElem?_map, h']; rfl
  rw [List.getElem?_eq_getElem hk2] at e
  have e1' := Option.some.inj e
  have e2' : (pulls l (still c))[k].h = l.ks[k].1 := by
    have h2 : (pulls l (still c))[k]? = some _ := h
    rw [h'] at h2
    rw [Option.some.inj h2]
  have hm := List.getElem_mem hk3
  rw [e1', ← e2']
  exact (longR_lenR (pulls_ok hl hb _ hm) (hz _ hm) (pulls_one l c _ hm)).symm
set_option maxRecDepth 100000 in
set_option maxHeartbeats 2000000 in
theorem rLength_any (v u : Value) (l : Ln) (cu : List Int) (w : World) (hs : Sl e3 3 w v l.ks) (hu : Sl e1 1 w u cu) (hl : LnOk l) (hc : CuOk l cu) (hb : BoxOk l (still cu)) (hz : ∀ t ∈ tens l cu, 0 < t.2) (hz' : ∀ p ∈ pulls l (still cu), 0 < p.z) :
    Calls Try.prog 50 #[.agg #[.int .i64 l.x, .int .i64 l.z, v], u] w fun e w' => e = .returned (.agg #[.int .i64 (totR lenR (pulls l (still cu))).1, .int .i64 (totR lenR (pulls l (still cu))).2]) ∧ Below w.heap.size w w' := by
  have HT := Lib.hid (fun w' (hw : Below w.heap.size w w') => Tensions_any v u l cu w' (hs.below hw) (hu.below hw) hl hc)
  have HS := Lib.hid hs
  obtain ⟨A, c, rfl, hcap⟩ := hs.form
  obtain ⟨bl, ol, rfl, hbl1, hbl2⟩ := hs.at3 (k := 0) hl.n0
  clear hbl1 hbl2
  obtain ⟨A', c', rfl, hcap'⟩ := hu.form
  have hlen := tens_len l cu hc.len
  have hpl : (pulls l (still cu)).length = l.ks.length := pulls_len hb
  have hn1 := hl.n1
  have hn0 := hl.n0
  have HAT := Lib.hid (fun k h1 h2 h3 => len_at hl hb hc.len hz' k h1 h2 h3)
  have HFO := Lib.hid (tens_fo hl hc hz)
  have HBD := Lib.hid (fun p hp => lenR_bd (pulls_ok hl hb p hp) (hz' p hp))
  have HLK := Lib.hid hl.ok
  clear hs hu hl hc hb hz hz' hcap hcap'
  generalize pulls l (still cu) = ps at *
  generalize tens l cu = ts at *
  have HLN := Lib.hid (And.intro hlen hpl)
  have htl : ts.length ≤ 10 := by omega
  have ht0 : 0 < ts.length := by omega
  clear hlen hpl
  obtain ⟨W0, hW0⟩ : ∃ W0, W0 = ((w.alloc (.cells #[.int .i64 l.x, .int .i64 l.z, .slice (some ⟨bl, ol, none⟩) l.ks.length c] 26)).alloc (.cells #[.int .i64 0, .int .i64 0] 66)).alloc (.cells #[.int .i64 0, .int .i64 0] 66) := ⟨_, rfl⟩
  have HB0 : Hid (Below w.heap.size w W0) := by rw [hW0]; exact below_al (below_al (below_alloc1 _ _) _) _
  have z0 : W0.heap.size = w.heap.size + 3 := by rw [hW0]; simp
  have HZ0 : Hid ((At W0 ⟨w.heap.size + 1, 0, none⟩ (.int .i64 0) ∧ At W0 ⟨w.heap.size + 1, 1, none⟩ (.int .i64 0)) ∧ At W0 ⟨w.heap.size + 1 + 1, 0, none⟩ (.int .i64 0) ∧ At W0 ⟨w.heap.size + 1 + 1, 1, none⟩ (.int .i64 0)) := by
    rw [hW0]
    have h := box2 (w.alloc (.cells #[.int .i64 l.x, .int .i64 l.z, .slice (some ⟨bl, ol, none⟩) l.ks.length c] 26)) #[Value.int .i64 0, .int .i64 0] #[Value.int .i64 0, .int .i64 0] 66 66
    have e : (w.alloc (.cells #[.int .i64 l.x, .int .i64 l.z, .slice (some ⟨bl, ol, none⟩) l.ks.length c] 26)).heap.size = w.heap.size + 1 := by simp
    rw [e] at h
    exact ⟨⟨h.1 0 _ rfl, h.1 1 _ rfl⟩, h.2 0 _ rfl, h.2 1 _ rfl⟩
  have HL0 : ∀ (j : Nat) (u : Value), #[Value.int .i64 l.x, .int .i64 l.z, .slice (some ⟨bl, ol, none⟩) l.ks.length c][j]? = some u → At W0 ⟨w.heap.size, j, none⟩ u := by
    intro j u h
    rw [hW0]; exact ((At.new w #[.int .i64 l.x, .int .i64 l.z, .slice (some ⟨bl, ol, none⟩) l.ks.length c] 26 j u h).al _).al _
  have p0 := (HL0 0 _ rfl).1
  have p1 := (HL0 1 _ rfl).1
  have p2 := (HL0 2 _ rfl).1
  have HP2 := Lib.hid (HL0 2 _ rfl)
  clear HL0
  go_enter Try.func50, Try.ntmps50
  go_wp2_with (first
    | (rw [← hW0]; clear hW0)
    | (go_at_call 38; refine (HT.out _ HB0.out).mono ?_; rintro e w2 ⟨r, rfl, ho, hb2⟩; have hkey : ∃ bt ot ct, r = .slice (some ⟨bt, ot, none⟩) ts.length ct ∧ W0.heap.size ≤ bt ∧ bt < w2.heap.size := (by obtain ⟨g, cap, e, h1, h2, _⟩ := ho.at2 ht0; exact ⟨g, 0, cap, e, h1, h2⟩); obtain ⟨bt, ot, ct, rfl, hbt0, hbt1⟩ := hkey; have HO := Lib.hid (ho.sl e2_len); have HB2 := Lib.hid hb2; clear ho hb2))
  have HR2 : Hid ((At w2 ⟨w.heap.size + 1, 0, none⟩ (.int .i64 0) ∧ At w2 ⟨w.heap.size + 1, 1, none⟩ (.int .i64 0)) ∧ At w2 ⟨w.heap.size + 1 + 1, 0, none⟩ (.int .i64 0) ∧ At w2 ⟨w.heap.size + 1 + 1, 1, none⟩ (.int .i64 0)) :=
    ⟨⟨HZ0.out.1.1.below HB2.out, HZ0.out.1.2.below HB2.out⟩, HZ0.out.2.1.below HB2.out, HZ0.out.2.2.below HB2.out⟩
  clear p0 p1 p2
  go_loopw [7, 8] (fun i _ wr => ∃ k : Nat, k ≤ ts.length ∧ i = .int .i64 k ∧ w2.heap.size ≤ wr.heap.size ∧ ((At wr ⟨w.heap.size + 1 + 1, 0, none⟩ (.int .i64 (totR lenR (ps.take k)).1) ∧ At wr ⟨w.heap.size + 1 + 1, 1, none⟩ (.int .i64 (totR lenR (ps.take k)).2)) ∧ (At wr ⟨w.heap.size + 1, 0, none⟩ (.int .i64 0) ∧ At wr ⟨w.heap.size + 1, 1, none⟩ (.int .i64 0)) ∧ At wr ⟨w.heap.size, 2, none⟩ (.slice (some ⟨bl, ol, none⟩) l.ks.length c) ∧ Sl e2 2 wr (.slice (some ⟨bt, ot, none⟩) ts.length ct) ts ∧ Below w.heap.size w wr)) (fun i _ _ => ts.length - (intOf i).toNat)
  case atStart => exact ⟨0, Nat.zero_le _, rfl, Nat.le_refl _, ⟨HR2.out.2.1, HR2.out.2.2⟩, HR2.out.1, HP2.out.below HB2.out, HO.out, below_tr HB0.out HB2.out⟩
  case round =>
    obtain ⟨k, hk, rfl, hzr, hrest⟩ := hrel
    have HR := Lib.hid hrest
    clear hrest
    by_cases hlt : k < ts.length
    · have hltl : k < l.ks.length := by rw [← HLN.out.1]; exact hlt
      have hltp : k < ps.length := by rw [HLN.out.2]; exact hltl
      have hsn := totR_snoc lenR (ps.take k) ps[k]
      rw [← List.take_succ_eq_append_getElem hltp, HAT.out k hltl hlt hltp] at hsn
      have hb1 := totR_bd lenR 40000000 (ps.take k) (fun p hp => by have := HBD.out p (List.mem_of_mem_take hp); omega)
      have hb2 := HBD.out ps[k] (List.getElem_mem _)
      rw [HAT.out k hltl hlt hltp] at hb2
      have hkl : ((ps.take k).length : Int) ≤ 10 := by rw [List.length_take]; omega
      have HSN := Lib.hid hsn
      have hkk := HLK.out l.ks[k] (List.getElem_mem _)
      have HK := Lib.hid (fun w => rLong_any l.ks[k].1 ts[k] w ⟨hkk.1, hkk.2.1⟩ (HFO.out _ (List.getElem_mem _)))
      have HAT2 := Lib.hid (fun W (h : Sl e2 2 W (.slice (some ⟨bt, ot, none⟩) ts.length ct) ts) => h.at2 (k := k) hlt)
      have HAT3 := Lib.hid (fun W (h : Below w.heap.size w W) => (HS.out.below h).at3 (k := k) hltl)
      have hkt : (k : Int) < (ts.length : Int) := by omega
      have hkl' : (k : Int) < (l.ks.length : Int) := by omega
      have hk0 : (0 : Int) ≤ (k : Int) := by omega
      clear hsn hkk
      generalize ts[k] = t at *
      generalize l.ks[k] = kk at *
      generalize longR kk.1 t = lr at *
      generalize totR lenR (ps.take k) = s at *
      obtain ⟨t1, t2⟩ := t
      obtain ⟨k1, k2, k3⟩ := kk
      obtain ⟨lr1, lr2⟩ := lr
      obtain ⟨s1, s2⟩ := s
      simp only at *
      have hw1 : IntKind.i64.wrap (s1 + lr1) = s1 + lr1 := IntWalk.i64_in _ (by omega)
      have hw2 : IntKind.i64.wrap (s2 + lr2) = s2 + lr2 := IntWalk.i64_in _ (by omega)
      clear hb1 hb2 hkl
      have HX : Hid (∀ W, Below wr.drew.heap.size wr.drew W → (W.cell? ⟨bt, ot + k * 2, none⟩ = some (.int .i64 t1) ∧ W.cell? ⟨bt, ot + k * 2 + 1, none⟩ = some (.int .i64 t2)) ∧ W.cell? ⟨bl, ol + k * 3, none⟩ = some (.int .i64 k1) ∧ W.cell? ⟨w.heap.size, 2, none⟩ = some (.slice (some ⟨bl, ol, none⟩) l.ks.length c) ∧
          (At W ⟨w.heap.size + 1 + 1, 0, none⟩ (.int .i64 s1) ∧ At W ⟨w.heap.size + 1 + 1, 1, none⟩ (.int .i64 s2)) ∧ (At W ⟨w.heap.size + 1, 0, none⟩ (.int .i64 0) ∧ At W ⟨w.heap.size + 1, 1, none⟩ (.int .i64 0)) ∧ At W ⟨w.heap.size, 2, none⟩ (.slice (some ⟨bl, ol, none⟩) l.ks.length c) ∧ Sl e2 2 W (.slice (some ⟨bt, ot, none⟩) ts.length ct) ts ∧ Below w.heap.size w W) := by
        intro W hW
        have hb0 : Below wr.heap.size wr W := Below.trans (Below.drew (Below.refl _ _)) hW
        obtain ⟨⟨h1, h2⟩, ⟨h3, h4⟩, h5, h6, h7⟩ := HR.out
        have hb' : Below w.heap.size w W := below_tr h7 hb0
        obtain ⟨b0, o0, e0, _, ca1, ca2⟩ := HAT2.out W (h6.below hb0)
        injection e0 with e0
        injection e0 with e01 e02
        subst e01; subst e02
        obtain ⟨b0, o0, e0, _, cb1, cb2⟩ := HAT3.out W hb'
        injection e0 with e0
        injection e0 with e01 e02
        subst e01; subst e02
        exact ⟨⟨ca1, ca2⟩, cb1, (h5.below hb0).1, ⟨h1.below hb0, h2.below hb0⟩, ⟨h3.below hb0, h4.below hb0⟩, h5.below hb0, h6.below hb0, hb'⟩
      go_wp2_with fail
      refine wp_region_mono 12 [18, 19, 20, 21, 22, 23, 24, 25, 26, 27, 28, 8] [[], [0], [], [1, 2], [3], [4], [], [], [6, 7], [8], [5, 9], []] [fun v _ => v = .pointer (some ⟨w.heap.size, 2, none⟩), fun v _ => v = .slice (some ⟨bl, ol, none⟩) l.ks.length c, fun v _ => v = .int .i64 k, fun v _ => v = .pointer (some ⟨bl, ol + k * 3, none⟩), fun v _ => v = .pointer (some ⟨bl, ol + k * 3, none⟩), fun v _ => v = .int .i64 k1, fun v _ => v = .slice (some ⟨bt, ot, none⟩) ts.length ct, fun v _ => v = .int .i64 k, fun v _ => v = .pointer (some ⟨bt, ot + k * 2, none⟩), fun v _ => v = .agg #[.int .i64 t1, .int .i64 t2], fun v _ => v = .agg #[.int .i64 lr1, .int .i64 lr2], fun v w => (∃ b, v = .pointer (some ⟨b, 0, none⟩) ∧ wr.heap.size ≤ b ∧ At w ⟨b, 0, none⟩ (.int .i64 0) ∧ At w ⟨b, 1, none⟩ (.int .i64 0))] (by kernel_rfl) (by kernel_rfl) ⟨st_eq _, st_eq _, st_eq _, st_eq _, st_eq _, st_eq _, st_eq _, st_eq _, st_eq _, st_eq _, st_eq _, (fun _ _ _ ⟨b, h1, h2, h3, h4⟩ hb => ⟨b, h1, h2, h3.below hb, h4.below hb⟩), trivial⟩ ?_ ?_
      · simp only [List.take_succ_cons, List.take_zero, steps, and_true]
        refine ⟨?_, ?_, ?_, ?_, ?_, ?_, ?_, ?_, ?_, ?_, ?_, ?_⟩
        · intro x W hB _; simp only [putX, setX, List.foldl_cons, List.foldl_nil]; refine ⟨?_⟩; go_simp; exact ⟨rfl, Below.refl _ _⟩
        · intro x W hB hN; simp only [needs, sAt, dAt] at hN; simp only [putX, setX, List.foldl_cons, List.foldl_nil]; obtain ⟨⟨c0, c1⟩, c2, c3, _⟩ := HX.out W hB; refine ⟨?_⟩; go_simp; exact ⟨rfl, Below.refl _ _⟩
        · intro x W hB _; simp only [putX, setX, List.foldl_cons, List.foldl_nil]; refine ⟨?_⟩; go_simp; exact ⟨rfl, Below.refl _ _⟩
        · intro x W hB hN; simp only [needs, sAt, dAt] at hN; simp only [putX, setX, List.foldl_cons, List.foldl_nil]; refine ⟨?_⟩; go_simp; exact ⟨rfl, Below.refl _ _⟩
        · intro x W hB hN; simp only [needs, sAt, dAt] at hN; simp only [putX, setX, List.foldl_cons, List.foldl_nil]; refine ⟨?_⟩; go_simp; exact ⟨rfl, Below.refl _ _⟩
        · intro x W hB hN; simp only [needs, sAt, dAt] at hN; simp only [putX, setX, List.foldl_cons, List.foldl_nil]; obtain ⟨⟨c0, c1⟩, c2, c3, _⟩ := HX.out W hB; refine ⟨?_⟩; go_simp; exact ⟨rfl, Below.refl _ _⟩
        · intro x W hB _; simp only [putX, setX, List.foldl_cons, List.foldl_nil]; refine ⟨?_⟩; go_simp; exact ⟨rfl, Below.refl _ _⟩
        · intro x W hB _; simp only [putX, setX, List.foldl_cons, List.foldl_nil]; refine ⟨?_⟩; go_simp; exact ⟨rfl, Below.refl _ _⟩
        · intro x W hB hN; simp only [needs, sAt, dAt] at hN; simp only [putX, setX, List.foldl_cons, List.foldl_nil]; refine ⟨?_⟩; go_simp; exact ⟨rfl, Below.refl _ _⟩
        · intro x W hB hN; simp only [needs, sAt, dAt] at hN; simp only [putX, setX, List.foldl_cons, List.foldl_nil]; obtain ⟨⟨c0, c1⟩, c2, c3, _⟩ := HX.out W hB; refine ⟨?_⟩; go_simp; exact ⟨rfl, Below.refl _ _⟩
        · intro x W hB hN; simp only [needs, sAt, dAt] at hN; simp only [putX, setX, List.foldl_cons, List.foldl_nil]; refine ⟨?_⟩; go_simp; refine (HK.out _).mono ?_; rintro e w' ⟨rfl, hb⟩; exact ⟨_, rfl, rfl, hb⟩
        · intro x W hB _; simp only [putX, setX, List.foldl_cons, List.foldl_nil]; refine ⟨?_⟩; go_simp; exact ⟨⟨_, rfl, hB.size, At.new W #[.int .i64 0, .int .i64 0] 66 0 _ rfl, At.new W #[.int .i64 0, .int .i64 0] 66 1 _ rfl⟩, below_alloc1 _ _⟩
      · intro x W hB hA
        simp only [allSp] at hA
        have q1 := hA.2.2.2.2.2.2.2.2.2.2.1
        obtain ⟨B8, q2, hz8, hn0', hn1'⟩ := hA.2.2.2.2.2.2.2.2.2.2.2.1
        have HRW := Lib.hid (HX.out W hB).2.2.2
        have HNW := Lib.hid (And.intro hn0' hn1')
        obtain ⟨n0, m0⟩ := hn0'
        obtain ⟨n1, m1⟩ := hn1'
        have hzW : wr.heap.size ≤ W.heap.size := hB.size
        clear hA hB
        simp only [putX, setX, List.foldl_cons, List.foldl_nil, List.drop_succ_cons, List.drop_zero, q1, q2, List.setIfInBounds_toArray, List.set_cons_succ, List.set_cons_zero]
        clear q1 q2
        go_wp2_with fail
        obtain ⟨W7, hW7⟩ : ∃ W7, W7 = (W.setCell ⟨B8, 0, none⟩ (.int .i64 lr1)).setCell ⟨B8, 1, none⟩ (.int .i64 lr2) := ⟨_, rfl⟩
        rw [← hW7]
        have hz7 : w2.heap.size ≤ W7.heap.size := by rw [hW7]; simp; omega
        have hne1 : ∀ o p, (⟨w.heap.size + 1 + 1, o, none⟩ : Addr) ≠ ⟨B8, p, none⟩ := fun o p => addr_ne (by omega)
        have hne2 : ∀ o p, (⟨w.heap.size + 1, o, none⟩ : Addr) ≠ ⟨B8, p, none⟩ := fun o p => addr_ne (by omega)
        have hne3 : ∀ o p, (⟨w.heap.size, o, none⟩ : Addr) ≠ ⟨B8, p, none⟩ := fun o p => addr_ne (by omega)
        have hne4 : B8 ≠ w.heap.size + 1 + 1 := by omega
        have HW7 : Hid ((At W7 ⟨B8, 0, none⟩ (.int .i64 lr1) ∧ At W7 ⟨B8, 1, none⟩ (.int .i64 lr2)) ∧ (At W7 ⟨w.heap.size + 1 + 1, 0, none⟩ (.int .i64 s1) ∧ At W7 ⟨w.heap.size + 1 + 1, 1, none⟩ (.int .i64 s2)) ∧ (At W7 ⟨w.heap.size + 1, 0, none⟩ (.int .i64 0) ∧ At W7 ⟨w.heap.size + 1, 1, none⟩ (.int .i64 0)) ∧ At W7 ⟨w.heap.size, 2, none⟩ (.slice (some ⟨bl, ol, none⟩) l.ks.length c) ∧ Sl e2 2 W7 (.slice (some ⟨bt, ot, none⟩) ts.length ct) ts ∧ Below w.heap.size w W7) := by
          obtain ⟨⟨h1, h2⟩, ⟨h3, h4⟩, h5, h6, h7⟩ := HRW.out
          rw [hW7]
          refine ⟨⟨(HNW.out.1.set).other (addr_ne2 (by omega)), (HNW.out.2.other (addr_ne2 (by omega))).set⟩, ⟨(h1.other (hne1 _ _)).other (hne1 _ _), (h2.other (hne1 _ _)).other (hne1 _ _)⟩, ⟨(h3.other (hne2 _ _)).other (hne2 _ _), (h4.other (hne2 _ _)).other (hne2 _ _)⟩, (h5.other (hne3 _ _)).other (hne3 _ _), (h6.setOther (by show B8 ≠ bt; omega) _).setOther (by show B8 ≠ bt; omega) _, below_set (below_set h7 (by show w.heap.size ≤ B8; omega) _) (by show w.heap.size ≤ B8; omega) _⟩
        clear hW7 hne1 hne2 hne3 HRW HNW n0 m0 n1 m1
        obtain ⟨I, hI0, HI0, HIX, HST, HIT⟩ : ∃ I : Bool → World → Prop, I false W7.drew ∧ Hid (∀ W, I false W → (At W ⟨w.heap.size + 1 + 1, 0, none⟩ (.int .i64 s1) ∧ At W ⟨w.heap.size + 1 + 1, 1, none⟩ (.int .i64 s2))) ∧
            Hid (∀ b W, I b W → W.cell? ⟨B8, 0, none⟩ = some (.int .i64 lr1) ∧ W.cell? ⟨B8, 1, none⟩ = some (.int .i64 lr2)) ∧
            Hid (∀ W, I false W → I true (W.setCell ⟨w.heap.size + 1 + 1, 0, none⟩ (.int .i64 (s1 + lr1)))) ∧
            Hid (∀ W, I true W → w2.heap.size ≤ W.heap.size ∧ (At W ⟨w.heap.size + 1 + 1, 0, none⟩ (.int .i64 (s1 + lr1)) ∧ At W ⟨w.heap.size + 1 + 1, 1, none⟩ (.int .i64 s2)) ∧ (At W ⟨w.heap.size + 1, 0, none⟩ (.int .i64 0) ∧ At W ⟨w.heap.size + 1, 1, none⟩ (.int .i64 0)) ∧ At W ⟨w.heap.size, 2, none⟩ (.slice (some ⟨bl, ol, none⟩) l.ks.length c) ∧ Sl e2 2 W (.slice (some ⟨bt, ot, none⟩) ts.length ct) ts ∧ Below w.heap.size w W) := by
          refine ⟨fun b W => w2.heap.size ≤ W.heap.size ∧ (At W ⟨B8, 0, none⟩ (.int .i64 lr1) ∧ At W ⟨B8, 1, none⟩ (.int .i64 lr2)) ∧ (At W ⟨w.heap.size + 1 + 1, 0, none⟩ (.int .i64 (cond b (s1 + lr1) s1)) ∧ At W ⟨w.heap.size + 1 + 1, 1, none⟩ (.int .i64 s2)) ∧ (At W ⟨w.heap.size + 1, 0, none⟩ (.int .i64 0) ∧ At W ⟨w.heap.size + 1, 1, none⟩ (.int .i64 0)) ∧ At W ⟨w.heap.size, 2, none⟩ (.slice (some ⟨bl, ol, none⟩) l.ks.length c) ∧ Sl e2 2 W (.slice (some ⟨bt, ot, none⟩) ts.length ct) ts ∧ Below w.heap.size w W, ?_, ?_, ?_, ?_, ?_⟩
          · obtain ⟨⟨x0, x1⟩, ⟨h1, h2⟩, ⟨h3, h4⟩, h5, h6, h7⟩ := HW7.out
            exact ⟨hz7, ⟨x0.drew, x1.drew⟩, ⟨h1.drew, h2.drew⟩, ⟨h3.drew, h4.drew⟩, h5.drew, h6.drew, below_dr h7⟩
          · exact fun W h => h.2.2.1
          · exact fun b W h => ⟨h.2.1.1.1, h.2.1.2.1⟩
          · rintro W ⟨hz, ⟨x0, x1⟩, ⟨h1, h2⟩, ⟨h3, h4⟩, h5, h6, h7⟩
            exact ⟨by simpa using hz, ⟨x0.other (addr_ne hne4), x1.other (addr_ne hne4)⟩, ⟨h1.set, h2.other (addr_ne2 (by omega))⟩, ⟨h3.other (addr_ne (by omega)), h4.other (addr_ne (by omega))⟩, h5.other (addr_ne (by omega)), h6.setOther (by show w.heap.size + 1 + 1 ≠ bt; omega) _, below_set h7 (by show w.heap.size ≤ w.heap.size + 1 + 1; omega) _⟩
          · exact fun W h => ⟨h.1, h.2.2⟩
        clear HW7
        refine wp_region_inv 13 11 [29, 30, 31, 32, 33, 34, 35, 36, 37, 38, 39, 1000000, 40] [[], [0], [], [2], [1, 3], [], [5], [], [7], [6, 8], [], [4, 10], []] [.any, .early, .any, .any, .any, .any, .early, .any, .any, .any, .any, .st, .any] [fun v => v = .pointer (some ⟨w.heap.size + 1 + 1, 0, none⟩), fun v => v = .int .i64 s1, fun v => v = .pointer (some ⟨B8, 0, none⟩), fun v => v = .int .i64 lr1, fun v => v = .int .i64 (s1 + lr1), fun v => v = .pointer (some ⟨w.heap.size + 1 + 1, 1, none⟩), fun v => v = .int .i64 s2, fun v => v = .pointer (some ⟨B8, 1, none⟩), fun v => v = .int .i64 lr2, fun v => v = .int .i64 (s2 + lr2), fun v => v = .pointer (some ⟨w.heap.size + 1 + 1, 0, none⟩), fun _ => True, fun v => v = .pointer (some ⟨w.heap.size + 1 + 1, 1, none⟩)] I (by kernel_rfl) (by kernel_rfl) ?_ (fun _ => trivial) hI0 ?_
        · simp only [List.take_succ_cons, List.take_zero, stepsI, stepI, and_true]
          refine ⟨?_, ?_, ?_, ?_, ?_, ?_, ?_, ?_, ?_, ?_, ?_, ?_, ?_⟩
          · intro x W b hI _; simp only [putX, setX, List.foldl_cons, List.foldl_nil]; refine ⟨?_⟩; go_simp; exact ⟨rfl, hI⟩
          · intro x W hI hN; simp only [needsV, vAt, dAt] at hN; simp only [putX, setX, List.foldl_cons, List.foldl_nil]; obtain ⟨⟨o0, g0⟩, ⟨o1, g1⟩⟩ := HI0.out _ hI; refine ⟨?_⟩; go_simp; exact ⟨rfl, hI⟩
          · intro x W b hI _; simp only [putX, setX, List.foldl_cons, List.foldl_nil]; refine ⟨?_⟩; go_simp; exact ⟨rfl, hI⟩
          · intro x W b hI hN; simp only [needsV, vAt, dAt] at hN; simp only [putX, setX, List.foldl_cons, List.foldl_nil]; obtain ⟨x0, x1⟩ := HIX.out _ _ hI; refine ⟨?_⟩; go_simp; exact ⟨rfl, hI⟩
          · intro x W b hI hN; simp only [needsV, vAt, dAt] at hN; simp only [putX, setX, List.foldl_cons, List.foldl_nil]; refine ⟨?_⟩; go_simp; exact ⟨rfl, hI⟩
          · intro x W b hI _; simp only [putX, setX, List.foldl_cons, List.foldl_nil]; refine ⟨?_⟩; go_simp; exact ⟨rfl, hI⟩
          · intro x W hI hN; simp only [needsV, vAt, dAt] at hN; simp only [putX, setX, List.foldl_cons, List.foldl_nil]; obtain ⟨⟨o0, g0⟩, ⟨o1, g1⟩⟩ := HI0.out _ hI; refine ⟨?_⟩; go_simp; exact ⟨rfl, hI⟩
          · intro x W b hI _; simp only [putX, setX, List.foldl_cons, List.foldl_nil]; refine ⟨?_⟩; go_simp; exact ⟨rfl, hI⟩
          · intro x W b hI hN; simp only [needsV, vAt, dAt] at hN; simp only [putX, setX, List.foldl_cons, List.foldl_nil]; obtain ⟨x0, x1⟩ := HIX.out _ _ hI; refine ⟨?_⟩; go_simp; exact ⟨rfl, hI⟩
          · intro x W b hI hN; simp only [needsV, vAt, dAt] at hN; simp only [putX, setX, List.foldl_cons, List.foldl_nil]; refine ⟨?_⟩; go_simp; exact ⟨rfl, hI⟩
          · intro x W b hI _; simp only [putX, setX, List.foldl_cons, List.foldl_nil]; refine ⟨?_⟩; go_simp; exact ⟨rfl, hI⟩
          · intro x W hI hN; simp only [needsV, vAt, dAt] at hN; simp only [putX, setX, List.foldl_cons, List.foldl_nil]; obtain ⟨⟨o0, g0⟩, ⟨o1, g1⟩⟩ := HI0.out _ hI; refine ⟨?_⟩; go_simp; exact HST.out _ hI
          · intro x W b hI _; simp only [putX, setX, List.foldl_cons, List.foldl_nil]; refine ⟨?_⟩; go_simp; exact ⟨rfl, hI⟩
        · intro x W hI hA
          simp only [allV] at hA
          have q1 := hA.2.2.2.2.2.2.2.2.2.1
          have q2 := hA.2.2.2.2.2.2.2.2.2.2.2.2.1
          have HW := Lib.hid (HIT.out W hI)
          obtain ⟨_, ⟨_, ⟨o1, g1⟩⟩, _⟩ := HIT.out W hI
          clear hA hI hI0
          simp only [putX, setX, List.foldl_cons, List.foldl_nil, List.drop_succ_cons, List.drop_zero, q1, q2, List.setIfInBounds_toArray, List.set_cons_succ, List.set_cons_zero]
          clear q1 q2
          go_wp2_with fail
          go_roundw
          case rel =>
            obtain ⟨hz9, ⟨h1, h2⟩, ⟨h3, h4⟩, h5, h6, h7⟩ := HW.out
            refine ⟨k + 1, by omega, by go_num, by simpa using hz9, ?_⟩
            rw [HSN.out]
            exact ⟨⟨h1.other (addr_ne2 (by omega)), h2.set⟩, ⟨h3.other (addr_ne (by omega)), h4.other (addr_ne (by omega))⟩, h5.other (addr_ne (by omega)), h6.setOther (by show w.heap.size + 1 + 1 ≠ bt; omega) _, below_set h7 (by show w.heap.size ≤ w.heap.size + 1 + 1; omega) _⟩
          case measure => simp [intOf]; omega
    · obtain rfl : k = ts.length := by omega
      rw [show ps.take ts.length = ps from List.take_of_length_le (by rw [HLN.out.1, HLN.out.2]; exact Nat.le_refl _)] at HR
      obtain ⟨⟨s1, s2⟩, hsd⟩ : ∃ s, totR lenR ps = s := ⟨_, rfl⟩
      rw [hsd] at HR
      have HSD := Lib.hid hsd
      clear hsd
      simp only at HR
      obtain ⟨⟨⟨o0, g0⟩, ⟨o1, g1⟩⟩, ⟨⟨r0, f0⟩, ⟨r1, f1⟩⟩, _⟩ := HR.out
      go_wp2_with fail
      obtain ⟨W5, hW5⟩ : ∃ W5, W5 = (wr.setCell ⟨w.heap.size + 1, 0, none⟩ (.int .i64 s1)).setCell ⟨w.heap.size + 1, 1, none⟩ (.int .i64 s2) := ⟨_, rfl⟩
      rw [← hW5]
      obtain ⟨t0, _⟩ : At W5 ⟨w.heap.size + 1, 0, none⟩ (.int .i64 s1) := by rw [hW5]; exact (HR.out.2.1.1.set).other (by simp)
      obtain ⟨t1, _⟩ : At W5 ⟨w.heap.size + 1, 1, none⟩ (.int .i64 s2) := by rw [hW5]; exact (HR.out.2.1.2.other (by simp)).set
      have HB5 : Below w.heap.size w W5 := by rw [hW5]; exact below_set (below_set HR.out.2.2.2.2 (by simp) _) (by simp) _
      clear hW5
      (try simp only [Exit.inBlock, Exit.then])
      refine bodyPost_ret (v := .agg #[.int .i64 s1, .int .i64 s2]) ?_ rfl ⟨ret_range HSD.out, HB5⟩
      rw [results_cell rfl]
      go_simp
end Go.Proofs.Ytghglgaimhfedaa
