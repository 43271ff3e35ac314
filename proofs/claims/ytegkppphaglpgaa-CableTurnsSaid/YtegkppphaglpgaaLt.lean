/-
  Walks of chapter 1's sharpest bend.
-/
import Derived.Test.YtegkppphaglpgaaLs
namespace Go.Proofs.Ytegkppphaglpgaa
open Go.RowKit Go.Shelf

theorem low_bd (n d M : Int) (hn : 0 ≤ n ∧ n ≤ M) (hd : 0 < d ∧ d ≤ M) : (0 ≤ (low n d).1 ∧ (low n d).1 ≤ M) ∧ (0 ≤ (low n d).2 ∧ (low n d).2 ≤ M) := by
  have hg : (0 : Int) < (Int.gcd n d : Int) := by have := Int.gcd_pos_of_ne_zero_right n (show d ≠ 0 by omega); omega
  unfold low
  exact ⟨⟨Int.ediv_nonneg hn.1 (by omega), Int.le_trans (Int.ediv_le_self _ hn.1) hn.2⟩, Int.ediv_nonneg (by omega) (by omega), Int.le_trans (Int.ediv_le_self _ (by omega)) hd.2⟩
theorem bend_bd {a b : Int × Int} (ha : Fo a) (hb : Fo b) : (0 ≤ (bend a b).1 ∧ (bend a b).1 ≤ 4000000000000000000) ∧ (0 ≤ (bend a b).2 ∧ (bend a b).2 ≤ 4000000000000000000) := by
  have m1 := mul_bd a.1 b.2 20000 20000 ha.x ⟨by have := hb.z; omega, hb.z.2⟩
  have m2 := mul_bd b.1 a.2 20000 20000 hb.x ⟨by have := ha.z; omega, ha.z.2⟩
  have m3 := mul_bd (across a b) (across a b) 800000000 800000000 (by unfold across; omega) (by unfold across; omega)
  have n3 : 0 ≤ across a b * across a b := by rcases Int.le_total 0 (across a b) with h | h; exact Int.mul_nonneg h h; exact Int.mul_nonneg_of_nonpos_of_nonpos h h
  have sa := sq_pos ha
  have sb := sq_pos hb
  have m4 : 0 < sq a * sq b := Int.mul_pos sa.1 sb.1
  have m5 := mul_bd (sq a) (sq b) 800000000 800000000 (by omega) (by omega)
  exact low_bd _ _ _ ⟨n3, by omega⟩ ⟨m4, by omega⟩
theorem bendsF_bd : ∀ {ts : List (Int × Int)}, (∀ t ∈ ts, Fo t) → ∀ q ∈ bendsF ts, (0 ≤ q.1 ∧ q.1 ≤ 4000000000000000000) ∧ (0 ≤ q.2 ∧ q.2 ≤ 4000000000000000000)
  | [], _, q, h => by simp [bendsF] at h
  | [_], _, q, h => by simp [bendsF] at h
  | a :: b :: r, hf, q, h => by
    simp only [bendsF, List.mem_cons] at h
    rcases h with rfl | h
    · exact bend_bd (hf a (by simp)) (hf b (by simp))
    · exact bendsF_bd (ts := b :: r) (fun t ht => hf t (List.mem_cons_of_mem _ ht)) q h
/-- The first of the sharpest among the first k, and one more: by how the loop goes. -/
def sharpK (bs : List (Int × Int)) (k : Nat) : Nat := (List.range k).foldl (fun m i => if gtF (bs.getD i (0, 0)) (bs.getD m (0, 0)) = true then i else m) 0
theorem sharpK_succ (bs : List (Int × Int)) (k : Nat) : sharpK bs (k + 1) = if gtF (bs.getD k (0, 0)) (bs.getD (sharpK bs k) (0, 0)) = true then k else sharpK bs k := by
  unfold sharpK
  rw [List.range_succ, List.foldl_append]
  rfl
def sharpestIn (l : Ln) (c : List Int) : Int × (Int × Int) × Int :=
  if shapeErr l c = 0 then (if (bends l c).length = 0 then (0, (0, 0), 12) else ((sharpK (bends l c) (bends l c).length : Int), (bends l c).getD (sharpK (bends l c) (bends l c).length) (0, 0), 0)) else (0, (0, 0), shapeErr l c)
theorem ret_three {q : Int × (Int × Int) × Int} {a b c d : Int} (h : q = (a, (b, c), d)) : Ending.returned (.tuple #[.int .i64 a, .agg #[.int .i64 b, .int .i64 c], .int .i64 d]) = .returned (.tuple #[.int .i64 q.1, .agg #[.int .i64 q.2.1.1, .int .i64 q.2.1.2], .int .i64 q.2.2]) := by subst h; rfl
set_option maxRecDepth 100000 in
set_option maxHeartbeats 1000000 in
theorem SharpestIn_any (v u : Value) (l : Ln) (cu : List Int) (w : World) (hs : Sl e3 3 w v l.ks) (hu : Sl e1 1 w u cu) (hbig : l.ks.length ≤ 1000) (hbig' : cu.length ≤ 1000) :
    Calls Try.prog 45 #[.agg #[.int .i64 l.x, .int .i64 l.z, v], u] w fun e w' => e = .returned (.tuple #[.int .i64 (sharpestIn l cu).1, .agg #[.int .i64 (sharpestIn l cu).2.1.1, .int .i64 (sharpestIn l cu).2.1.2], .int .i64 (sharpestIn l cu).2.2]) ∧ Below w.heap.size w w' := by
  have HT := Lib.hid (fun w' (hw : Below w.heap.size w w') => BendsOf_any v u l cu w' (hs.below hw) (hu.below hw) hbig hbig')
  obtain ⟨A, c, rfl, hcap⟩ := hs.form
  obtain ⟨A', c', rfl, hcap'⟩ := hu.form
  have HX := Lib.hid (box2 w #[.int .i64 l.x, .int .i64 l.z, .slice A l.ks.length c] #[.int .i64 0, .int .i64 0] 26 75)
  have HBX : Hid (Below w.heap.size w ((w.alloc (.cells #[.int .i64 l.x, .int .i64 l.z, .slice A l.ks.length c] 26)).alloc (.cells #[.int .i64 0, .int .i64 0] 75))) := below_al (below_alloc1 _ _) _
  clear hs hu
  by_cases h1 : shapeErr l cu = 0
  · have hbd := bendsF_bd (tensions_fo h1)
    have hlen := tensions_len h1
    have hbl : (bends l cu).length ≤ 10 := by unfold bends; rw [bendsF_len]; omega
    have hbe : bendsOf l cu = (bends l cu, 0) := if_pos h1
    rw [hbe] at HT
    have E0 : sharpestIn l cu = if (bends l cu).length = 0 then (0, (0, 0), 12) else ((sharpK (bends l cu) (bends l cu).length : Int), (bends l cu).getD (sharpK (bends l cu) (bends l cu).length) (0, 0), 0) := if_pos h1
    have HBD : Hid (∀ q ∈ bends l cu, (0 ≤ q.1 ∧ q.1 ≤ 4000000000000000000) ∧ (0 ≤ q.2 ∧ q.2 ≤ 4000000000000000000)) := hbd
    clear h1 hbe hbd hlen
    generalize bends l cu = bs at *
    simp only at HT
    by_cases h0 : bs.length = 0
    · rw [if_pos h0] at E0
      have E := Lib.hid E0
      have h0' : ((bs.length : Int) == 0) = true := eq0 (by omega)
      clear E0 h0
      go_enter Try.func45, Try.ntmps45
      go_wp2_with (go_at_call 42; refine (HT.out _ HBX.out).mono ?_; rintro e w2 ⟨r, rfl, ho, hb2⟩; obtain ⟨Ab, ct, rfl, hct⟩ := (ho.sl e2_len).form; have R0 := (HX.out.2 0 _ rfl).below hb2; have R1 := (HX.out.2 1 _ rfl).below hb2; have HR2 := Lib.hid (And.intro R0 R1); have HB2 := Lib.hid (below_tr HBX.out hb2); obtain ⟨r0, f0⟩ := R0; obtain ⟨r1, f1⟩ := R1; clear hb2 ho)
      obtain ⟨W5, hW5⟩ : ∃ W5, W5 = (w2.setCell ⟨w.heap.size + 1, 0, none⟩ (.int .i64 0)).setCell ⟨w.heap.size + 1, 1, none⟩ (.int .i64 0) := ⟨_, rfl⟩
      rw [← hW5]
      obtain ⟨s0, _⟩ : At W5 ⟨w.heap.size + 1, 0, none⟩ (.int .i64 0) := by rw [hW5]; exact (HR2.out.1.set).other (by simp)
      obtain ⟨s1, _⟩ : At W5 ⟨w.heap.size + 1, 1, none⟩ (.int .i64 0) := by rw [hW5]; exact (HR2.out.2.other (by simp)).set
      have HB5 : Below w.heap.size w W5 := by rw [hW5]; exact below_set (below_set HB2.out (by simp) _) (by simp) _
      clear hW5
      (try simp only [Exit.inBlock, Exit.then])
      refine bodyPost_ret (v := .tuple #[.int .i64 0, .agg #[.int .i64 0, .int .i64 0], .int .i64 12]) ?_ rfl ⟨ret_three E.out, HB5⟩
      simp [results, Try.results45, go_sem, s0, s1]
    · rw [if_neg h0] at E0
      have E := Lib.hid E0
      have h0' : ((bs.length : Int) == 0) = false := eq1 (by omega)
      clear E0
      go_enter Try.func45, Try.ntmps45
      go_wp2_with (go_at_call 42; refine (HT.out _ HBX.out).mono ?_; rintro e w2 ⟨r, rfl, ho, hb2⟩; have HSB := Lib.hid (ho.sl e2_len); obtain ⟨Ab, ct, rfl, hct⟩ := HSB.out.form; have R0 := (HX.out.2 0 _ rfl).below hb2; have R1 := (HX.out.2 1 _ rfl).below hb2; have HR2 := Lib.hid (And.intro R0 R1); have HB2 := Lib.hid (below_tr HBX.out hb2); clear R0 R1 hb2 ho)
      go_loopw [9, 10, 11, 28] (fun sh _ _ i wr => ∃ k : Nat, k ≤ bs.length ∧ i = .int .i64 k ∧ sh = .int .i64 (sharpK bs k) ∧ sharpK bs k < bs.length ∧ Below w2.heap.size w2 wr) (fun _ _ _ i _ => bs.length - (intOf i).toNat)
      case atStart => exact ⟨0, Nat.zero_le _, rfl, rfl, by show 0 < _; omega, Below.refl _ _⟩
      case round =>
        obtain ⟨k, hk, rfl, rfl, hm, hb⟩ := hrel
        have HB := Lib.hid hb
        by_cases hlt : k < bs.length
        · obtain ⟨b0, o0, rfl, hbl', ca1, ca2⟩ := (HSB.out.below hb).at2 (k := k) hlt
          obtain ⟨b1, o1, e1', _, cb1, cb2⟩ := (HSB.out.below hb).at2 (k := sharpK bs k) hm
          injection e1' with e1'
          injection e1' with e11 e12
          subst e11; subst e12
          have hsc := sharpK_succ bs k
          rw [getD_eq _ _ _ hlt, getD_eq _ _ _ hm] at hsc
          have hq1 := HBD.out bs[k] (List.getElem_mem _)
          have hq2 := HBD.out bs[sharpK bs k] (List.getElem_mem _)
          have HG := Lib.hid (fun w => greater_any bs[k] bs[sharpK bs k] w hq1.1 hq1.2 hq2.1 hq2.2)
          have HSC := Lib.hid hsc
          have hmz : (sharpK bs k : Int) < (bs.length : Int) := by omega
          have hm0 : (0 : Int) ≤ (sharpK bs k : Int) := by omega
          clear hsc hq1 hq2 hb
          generalize bs[k] = qa at *
          generalize bs[sharpK bs k] = qb at *
          obtain ⟨a1, a2⟩ := qa
          obtain ⟨b1, b2⟩ := qb
          simp only at *
          generalize hmm : sharpK bs k = m at *
          cases hg : gtF (a1, a2) (b1, b2)
          · rw [hg] at HG HSC
            have HMM := Lib.hid hmm
            clear hmm hg
            go_wp2_with fail
            obtain ⟨W0, hW0⟩ : ∃ W0, W0 = wr.alloc (.cells #[.int .i64 a1, .int .i64 a2] 75) := ⟨_, rfl⟩
            rw [← hW0]
            have n1 : W0.cell? ⟨wr.heap.size, 0, none⟩ = some (.int .i64 a1) := by rw [hW0]; exact (At.new wr #[.int .i64 a1, .int .i64 a2] 75 0 _ rfl).1
            have n2 : W0.cell? ⟨wr.heap.size, 1, none⟩ = some (.int .i64 a2) := by rw [hW0]; exact (At.new wr #[.int .i64 a1, .int .i64 a2] 75 1 _ rfl).1
            have n3 : W0.cell? ⟨b0, o0 + m * 2, none⟩ = some (.int .i64 b1) := by rw [hW0]; exact (World.cell?_alloc_lt wr _ ⟨b0, o0 + m * 2, none⟩ hbl').trans cb1
            have n4 : W0.cell? ⟨b0, o0 + m * 2 + 1, none⟩ = some (.int .i64 b2) := by rw [hW0]; exact (World.cell?_alloc_lt wr _ ⟨b0, o0 + m * 2 + 1, none⟩ hbl').trans cb2
            have HB0 : Hid (Below w2.heap.size w2 W0) := by rw [hW0]; exact below_al HB.out _
            clear hW0
            go_still_tail 5, (by kernel_rfl)
            go_wp2_with (go_at_call 109; refine (HG.out _).mono ?_; rintro e w3 ⟨rfl, hb3⟩)
            go_roundw
            case rel => exact ⟨k + 1, by omega, by go_num, by rw [HSC.out]; rfl, by rw [HSC.out]; exact hm, below_tr (Below.drew HB0.out) hb3⟩
            case measure => simp [intOf]; omega
          · rw [hg] at HG HSC
            have HMM := Lib.hid hmm
            clear hmm hg
            go_wp2_with fail
            obtain ⟨W0, hW0⟩ : ∃ W0, W0 = wr.alloc (.cells #[.int .i64 a1, .int .i64 a2] 75) := ⟨_, rfl⟩
            rw [← hW0]
            have n1 : W0.cell? ⟨wr.heap.size, 0, none⟩ = some (.int .i64 a1) := by rw [hW0]; exact (At.new wr #[.int .i64 a1, .int .i64 a2] 75 0 _ rfl).1
            have n2 : W0.cell? ⟨wr.heap.size, 1, none⟩ = some (.int .i64 a2) := by rw [hW0]; exact (At.new wr #[.int .i64 a1, .int .i64 a2] 75 1 _ rfl).1
            have n3 : W0.cell? ⟨b0, o0 + m * 2, none⟩ = some (.int .i64 b1) := by rw [hW0]; exact (World.cell?_alloc_lt wr _ ⟨b0, o0 + m * 2, none⟩ hbl').trans cb1
            have n4 : W0.cell? ⟨b0, o0 + m * 2 + 1, none⟩ = some (.int .i64 b2) := by rw [hW0]; exact (World.cell?_alloc_lt wr _ ⟨b0, o0 + m * 2 + 1, none⟩ hbl').trans cb2
            have HB0 : Hid (Below w2.heap.size w2 W0) := by rw [hW0]; exact below_al HB.out _
            clear hW0
            go_still_tail 5, (by kernel_rfl)
            go_wp2_with (go_at_call 109; refine (HG.out _).mono ?_; rintro e w3 ⟨rfl, hb3⟩)
            go_roundw
            case rel => exact ⟨k + 1, by omega, by go_num, by rw [HSC.out]; rfl, by rw [HSC.out]; exact hlt, below_tr (Below.drew HB0.out) hb3⟩
            case measure => simp [intOf]; omega
        · obtain rfl : k = bs.length := by omega
          obtain ⟨b0, o0, rfl, hbl', ca1, ca2⟩ := (HSB.out.below hb).at2 hm
          have hge := getD_eq bs _ (0, 0) hm
          have hmz : (sharpK bs bs.length : Int) < (bs.length : Int) := by omega
          have hm0 : (0 : Int) ≤ (sharpK bs bs.length : Int) := by omega
          generalize bs[sharpK bs bs.length] = q at *
          rw [hge] at E
          generalize sharpK bs bs.length = m at *
          obtain ⟨q1, q2⟩ := q
          have R0 := HR2.out.1.below HB.out
          have R1 := HR2.out.2.below HB.out
          have HR3 := Lib.hid (And.intro R0 R1)
          obtain ⟨r0, f0⟩ := R0
          obtain ⟨r1, f1⟩ := R1
          simp only at *
          clear hb hge
          go_wp2_with fail
          go_still_tail 6, (by kernel_rfl)
          go_wp2_with fail
          obtain ⟨W5, hW5⟩ : ∃ W5, W5 = ((wr.setCell ⟨w.heap.size + 1, 0, none⟩ (.int .i64 q1)).setCell ⟨w.heap.size + 1, 1, none⟩ (.int .i64 q2)).drew := ⟨_, rfl⟩
          rw [← hW5]
          obtain ⟨s0, _⟩ : At W5 ⟨w.heap.size + 1, 0, none⟩ (.int .i64 q1) := by rw [hW5]; exact ((HR3.out.1.set).other (by simp)).drew
          obtain ⟨s1, _⟩ : At W5 ⟨w.heap.size + 1, 1, none⟩ (.int .i64 q2) := by rw [hW5]; exact ((HR3.out.2.other (by simp)).set).drew
          have HB5 : Below w.heap.size w W5 := by rw [hW5]; exact (below_set (below_set (below_tr HB2.out HB.out) (by simp) _) (by simp) _).drew
          clear hW5
          (try simp only [Exit.inBlock, Exit.then])
          refine bodyPost_ret (v := .tuple #[.int .i64 m, .agg #[.int .i64 q1, .int .i64 q2], .int .i64 0]) ?_ rfl ⟨ret_three E.out, HB5⟩
          simp [results, Try.results45, go_sem, s0, s1]
  · have E : Hid (sharpestIn l cu = (0, (0, 0), shapeErr l cu)) := if_neg h1
    have hbe : bendsOf l cu = ([], shapeErr l cu) := if_neg h1
    rw [hbe] at HT
    have h1' := ne1 h1
    generalize shapeErr l cu = pe at *
    clear h1 hbe
    simp only at HT
    go_enter Try.func45, Try.ntmps45
    go_wp2_with (go_at_call 42; refine (HT.out _ HBX.out).mono ?_; rintro e w2 ⟨r, rfl, ho, hb2⟩; have R0 := (HX.out.2 0 _ rfl).below hb2; have R1 := (HX.out.2 1 _ rfl).below hb2; have HR2 := Lib.hid (And.intro R0 R1); have HB2 := Lib.hid (below_tr HBX.out hb2); obtain ⟨r0, f0⟩ := R0; obtain ⟨r1, f1⟩ := R1; clear hb2 ho)
    obtain ⟨W5, hW5⟩ : ∃ W5, W5 = (w2.setCell ⟨w.heap.size + 1, 0, none⟩ (.int .i64 0)).setCell ⟨w.heap.size + 1, 1, none⟩ (.int .i64 0) := ⟨_, rfl⟩
    rw [← hW5]
    obtain ⟨s0, _⟩ : At W5 ⟨w.heap.size + 1, 0, none⟩ (.int .i64 0) := by rw [hW5]; exact (HR2.out.1.set).other (by simp)
    obtain ⟨s1, _⟩ : At W5 ⟨w.heap.size + 1, 1, none⟩ (.int .i64 0) := by rw [hW5]; exact (HR2.out.2.other (by simp)).set
    have HB5 : Below w.heap.size w W5 := by rw [hW5]; exact below_set (below_set HB2.out (by simp) _) (by simp) _
    clear hW5
    (try simp only [Exit.inBlock, Exit.then])
    refine bodyPost_ret (v := .tuple #[.int .i64 0, .agg #[.int .i64 0, .int .i64 0], .int .i64 pe]) ?_ rfl ⟨ret_three E.out, HB5⟩
    simp [results, Try.results45, go_sem, s0, s1]
end Go.Proofs.Ytegkppphaglpgaa
