/-
  Walks of chapter 1's reference: the ends of a box, the pulls over it.
-/
import Derived.Test.YtghglgaimhfedaaZOa
import Derived.Test.YtghglgaimhfedaaZNc
import Derived.Test.YtghglgaimhfedaaQN
namespace Go.Proofs.Ytghglgaimhfedaa
open Go.RowKit Go.Shelf
attribute [local go_sem] monoUpon_value monoUpon_skip monoUpon_enter

theorem pullsF_lo (lo hi z : Int) : ∀ (ks : List Lk) (b : List (Int × Int)), (pullsF lo hi z ks b).map (fun p => (p.lo, p.z)) = tensF lo z ks (b.map Prod.fst)
  | [], [] => rfl
  | [], _ :: _ => rfl
  | _ :: _, [] => rfl
  | k :: ks, r :: b => by simp only [pullsF, List.map_cons, tensF]; rw [pullsF_lo _ _ _ ks b]
theorem pullsF_hi (lo hi z : Int) : ∀ (ks : List Lk) (b : List (Int × Int)), (pullsF lo hi z ks b).map (fun p => (p.hi, p.z)) = tensF hi z ks (b.map Prod.snd)
  | [], [] => rfl
  | [], _ :: _ => rfl
  | _ :: _, [] => rfl
  | k :: ks, r :: b => by simp only [pullsF, List.map_cons, tensF]; rw [pullsF_hi _ _ _ ks b]
theorem pulls_at (l : Ln) (b : List (Int × Int)) (k : Nat) (h : k < (pulls l b).length) (h1 : k < (tens l (b.map Prod.fst)).length) (h2 : k < (tens l (b.map Prod.snd)).length) :
    (tens l (b.map Prod.fst))[k] = ((pulls l b)[k].lo, (pulls l b)[k].z) ∧ (tens l (b.map Prod.snd))[k] = ((pulls l b)[k].hi, (pulls l b)[k].z) := by
  have e1' := pullsF_lo l.x l.x l.z l.ks b
  have e2' := pullsF_hi l.x l.x l.z l.ks b
  have a1 : (tens l (b.map Prod.fst))[k]? = ((pulls l b).map (fun p => (p.lo, p.z)))[k]? := by rw [show (pulls l b).map (fun p => (p.lo, p.z)) = tens l (b.map Prod.fst) from e1']
  have a2 : (tens l (b.map Prod.snd))[k]? = ((pulls l b).map (fun p => (p.hi, p.z)))[k]? := by rw [show (pulls l b).map (fun p => (p.hi, p.z)) = tens l (b.map Prod.snd) from e2']
  rw [List.getElem?_eq_getElem h1, List.getElem?_map, List.getElem?_eq_getElem h] at a1
  rw [List.getElem?_eq_getElem h2, List.getElem?_map, List.getElem?_eq_getElem h] at a2
  exact ⟨Option.some.inj a1, Option.some.inj a2⟩
theorem box_cu1 {l : Ln} {b : List (Int × Int)} (h : BoxOk l b) : CuOk l (b.map Prod.fst) := ⟨by simp [h.len], fun n hn => by
  obtain ⟨r, hr, rfl⟩ := List.mem_map.1 hn
  have := h.ok r hr; omega⟩
theorem box_cu2 {l : Ln} {b : List (Int × Int)} (h : BoxOk l b) : CuOk l (b.map Prod.snd) := ⟨by simp [h.len], fun n hn => by
  obtain ⟨r, hr, rfl⟩ := List.mem_map.1 hn
  have := h.ok r hr; omega⟩
set_option maxRecDepth 100000 in
set_option maxHeartbeats 1000000 in
theorem rEnd_lo (v : Value) (b : List (Int × Int)) (w : World) (hs : Sl e2 2 w v b) (hbig : b.length ≤ 1000) :
    Calls Try.prog 122 #[v, .bool false] w fun e w' => ∃ r, e = .returned r ∧ Ow e1 1 3 w.heap.size w' r (b.map Prod.fst) ∧ Below w.heap.size w w' := by
  obtain ⟨i0, hi, hz0, hz1, hz2⟩ := info_parts intinfo
  have HS := Lib.hid hs
  obtain ⟨A, c, rfl, hcap⟩ := hs.form
  clear hs
  go_enter Try.func122, Try.ntmps122
  go_wp2_with fail
  go_loopw [5, 6] (fun r i wr => ∃ k : Nat, k ≤ b.length ∧ i = .int .i64 k ∧ Ow e1 1 3 w.heap.size wr r ((b.map Prod.fst).take k) ∧ Below w.heap.size w wr) (fun _ i _ => b.length - (intOf i).toNat)
  case atStart => exact ⟨0, Nat.zero_le _, rfl, Ow.nil _ _ _ _ _, Below.refl _ _⟩
  case round =>
    obtain ⟨k, hk, rfl, hown, hb⟩ := hrel
    have HO := Lib.hid hown
    have HB := Lib.hid hb
    clear hown
    by_cases hlt : k < b.length
    · obtain ⟨bt, ot, rfl, hbt, hc0, hc1⟩ := (HS.out.below hb).at2 hlt
      have hml : k < (b.map Prod.fst).length := by simpa using hlt
      have HTK := Lib.hid (List.take_succ_eq_append_getElem (l := b.map Prod.fst) (i := k) hml)
      have hlen : ((b.map Prod.fst).take k).length ≤ k := List.length_take_le _ _
      rw [List.getElem_map] at HTK
      clear hb
      generalize b[k] = t at *
      obtain ⟨t1, t2⟩ := t
      simp only at *
      have HO7 : Hid (World.ownsRow (wr.alloc (.cells #[.int .i64 t1] 3)) w.heap.size 3 1 u5 ((b.map Prod.fst).take k).length (((b.map Prod.fst).take k).flatMap e1)) := HO.out.own.alloc _
      go_wp2_with (at_builtin; refine wpList_append_own _ rfl _ _ 36 rfl w.heap.size 3 i0 _ 1 8 Try.underlying36 hi hz0 hz1 hz2 rfl (by decide) _ _ _ rfl HO7.out ⟨_, 0, none⟩ 1 1 (e1 t1) rfl rfl (cells_new _ _ _) (e1_one _) (by simp only [maxLen]; omega) (by omega) (by simp; have := HB.out.size; omega) ?_; intro v1 w6 hown1 hg1 _; have HO6 := Lib.hid hown1; have HG := Lib.hid hg1; clear hown1 hg1)
      go_roundw
      case rel => exact ⟨k + 1, by omega, by go_num, by rw [HTK.out]; exact Ow.snoc HO6.out, (HO.out.alloc _).grown HG.out (below_al HB.out _) (Nat.le_refl _)⟩
      case measure => simp [intOf]; omega
    · clear hb
      obtain rfl : k = b.length := by omega
      rw [show (b.map Prod.fst).take b.length = b.map Prod.fst from List.take_of_length_le (by simp)] at HO
      go_wp2_with fail
      go_ret
      exact ⟨_, rfl, HO.out, HB.out⟩
set_option maxRecDepth 100000 in
set_option maxHeartbeats 1000000 in
theorem rEnd_hi (v : Value) (b : List (Int × Int)) (w : World) (hs : Sl e2 2 w v b) (hbig : b.length ≤ 1000) :
    Calls Try.prog 122 #[v, .bool true] w fun e w' => ∃ r, e = .returned r ∧ Ow e1 1 3 w.heap.size w' r (b.map Prod.snd) ∧ Below w.heap.size w w' := by
  obtain ⟨i0, hi, hz0, hz1, hz2⟩ := info_parts intinfo
  have HS := Lib.hid hs
  obtain ⟨A, c, rfl, hcap⟩ := hs.form
  clear hs
  go_enter Try.func122, Try.ntmps122
  go_wp2_with fail
  go_loopw [5, 6] (fun r i wr => ∃ k : Nat, k ≤ b.length ∧ i = .int .i64 k ∧ Ow e1 1 3 w.heap.size wr r ((b.map Prod.snd).take k) ∧ Below w.heap.size w wr) (fun _ i _ => b.length - (intOf i).toNat)
  case atStart => exact ⟨0, Nat.zero_le _, rfl, Ow.nil _ _ _ _ _, Below.refl _ _⟩
  case round =>
    obtain ⟨k, hk, rfl, hown, hb⟩ := hrel
    have HO := Lib.hid hown
    have HB := Lib.hid hb
    clear hown
    by_cases hlt : k < b.length
    · obtain ⟨bt, ot, rfl, hbt, hc0, hc1⟩ := (HS.out.below hb).at2 hlt
      have hml : k < (b.map Prod.snd).length := by simpa using hlt
      have HTK := Lib.hid (List.take_succ_eq_append_getElem (l := b.map Prod.snd) (i := k) hml)
      have hlen : ((b.map Prod.snd).take k).length ≤ k := List.length_take_le _ _
      rw [List.getElem_map] at HTK
      clear hb
      generalize b[k] = t at *
      obtain ⟨t1, t2⟩ := t
      simp only at *
      have HO7 : Hid (World.ownsRow (wr.alloc (.cells #[.int .i64 t2] 3)) w.heap.size 3 1 u5 ((b.map Prod.snd).take k).length (((b.map Prod.snd).take k).flatMap e1)) := HO.out.own.alloc _
      go_wp2_with (at_builtin; refine wpList_append_own _ rfl _ _ 36 rfl w.heap.size 3 i0 _ 1 8 Try.underlying36 hi hz0 hz1 hz2 rfl (by decide) _ _ _ rfl HO7.out ⟨_, 0, none⟩ 1 1 (e1 t2) rfl rfl (cells_new _ _ _) (e1_one _) (by simp only [maxLen]; omega) (by omega) (by simp; have := HB.out.size; omega) ?_; intro v1 w6 hown1 hg1 _; have HO6 := Lib.hid hown1; have HG := Lib.hid hg1; clear hown1 hg1)
      go_roundw
      case rel => exact ⟨k + 1, by omega, by go_num, by rw [HTK.out]; exact Ow.snoc HO6.out, (HO.out.alloc _).grown HG.out (below_al HB.out _) (Nat.le_refl _)⟩
      case measure => simp [intOf]; omega
    · clear hb
      obtain rfl : k = b.length := by omega
      rw [show (b.map Prod.snd).take b.length = b.map Prod.snd from List.take_of_length_le (by simp)] at HO
      go_wp2_with fail
      go_ret
      exact ⟨_, rfl, HO.out, HB.out⟩
def loHi (l : Ln) (b : List (Int × Int)) : List (Int × Int) := (pulls l b).map fun p => (p.lo, p.hi)
set_option maxRecDepth 100000 in
set_option maxHeartbeats 2000000 in
theorem rPulls_any (v u : Value) (l : Ln) (b : List (Int × Int)) (w : World) (hs : Sl e3 3 w v l.ks) (hu : Sl e2 2 w u b) (hl : LnOk l) (hbx : BoxOk l b) :
    Calls Try.prog 63 #[.agg #[.int .i64 l.x, .int .i64 l.z, v], u] w fun e w' => ∃ r, e = .returned r ∧ Ow e2 2 66 w.heap.size w' r (loHi l b) ∧ Below w.heap.size w w' := by
  obtain ⟨i0, hi, hz0, hz1, hz2⟩ := info_parts rangeinfo2
  have hbig : b.length ≤ 1000 := by rw [hbx.len]; have := hl.n1; omega
  have hcu1 := box_cu1 hbx
  have hcu2 := box_cu2 hbx
  have hl1 := tens_len l _ hcu1.len
  have hl2 := tens_len l _ hcu2.len
  have hlp : (loHi l b).length = l.ks.length := by unfold loHi; rw [List.length_map]; exact pulls_len hbx
  have HAT : Hid (∀ k (h : k < (loHi l b).length) (h1 : k < (tens l (b.map Prod.fst)).length) (h2 : k < (tens l (b.map Prod.snd)).length), (loHi l b)[k] = ((tens l (b.map Prod.fst))[k].1, (tens l (b.map Prod.snd))[k].1)) := fun k h h1 h2 => by
    have hp : k < (pulls l b).length := by unfold loHi at h; simpa using h
    have := pulls_at l b k hp h1 h2
    rw [this.1, this.2]
    exact List.getElem_map (fun p : Pl => (p.lo, p.hi))
  have hs0 := hs
  have hu0 := hu
  obtain ⟨A, c, rfl, hcap⟩ := hs.form
  obtain ⟨A', c', rfl, hcap'⟩ := hu.form
  have HE1 : Hid (∀ W, Below w.heap.size w W → Calls Try.prog 122 #[.slice A' b.length c', .bool false] W fun e w' => ∃ r, e = .returned r ∧ Sl e1 1 w' r (b.map Prod.fst) ∧ Below W.heap.size W w') := fun W h =>
    (rEnd_lo _ b W (hu0.below h) hbig).mono fun e w' ⟨r, a, o, d⟩ => ⟨r, a, o.sl e1_len, d⟩
  have HE2 : Hid (∀ W, Below w.heap.size w W → Calls Try.prog 122 #[.slice A' b.length c', .bool true] W fun e w' => ∃ r, e = .returned r ∧ Sl e1 1 w' r (b.map Prod.snd) ∧ Below W.heap.size W w') := fun W h =>
    (rEnd_hi _ b W (hu0.below h) hbig).mono fun e w' ⟨r, a, o, d⟩ => ⟨r, a, o.sl e1_len, d⟩
  have HT1 : Hid (∀ u W, Below w.heap.size w W → Sl e1 1 W u (b.map Prod.fst) → Calls Try.prog 38 #[.agg #[.int .i64 l.x, .int .i64 l.z, .slice A l.ks.length c], u] W fun e w' => ∃ r, e = .returned r ∧ Sl e2 2 w' r (tens l (b.map Prod.fst)) ∧ Below W.heap.size W w') := fun u W h k =>
    (Tensions_any _ u l _ W (hs0.below h) k hl hcu1).mono fun e w' ⟨r, a, o, d⟩ => ⟨r, a, o.sl e2_len, d⟩
  have HT2 : Hid (∀ u W, Below w.heap.size w W → Sl e1 1 W u (b.map Prod.snd) → Calls Try.prog 38 #[.agg #[.int .i64 l.x, .int .i64 l.z, .slice A l.ks.length c], u] W fun e w' => ∃ r, e = .returned r ∧ Sl e2 2 w' r (tens l (b.map Prod.snd)) ∧ Below W.heap.size W w') := fun u W h k =>
    (Tensions_any _ u l _ W (hs0.below h) k hl hcu2).mono fun e w' ⟨r, a, o, d⟩ => ⟨r, a, o.sl e2_len, d⟩
  have hn1 := hl.n1
  have hn0 := hl.n0
  clear hs hu hs0 hu0 hl hbx hcu1 hcu2 hcap hcap'
  generalize tens l (b.map Prod.fst) = ts1 at *
  generalize tens l (b.map Prod.snd) = ts2 at *
  generalize loHi l b = ps at *
  have HLN := Lib.hid (And.intro hl1 (And.intro hl2 hlp))
  have ht1 : ts1.length ≤ 10 := by omega
  have hp10 : ps.length ≤ 10 := by omega
  have h01 : 0 < ts1.length := by omega
  have h02 : 0 < ts2.length := by omega
  clear hl1 hl2 hlp
  go_enter Try.func63, Try.ntmps63
  go_wp2_with fail
  obtain ⟨W0, hW0⟩ : ∃ W0, W0 = w.alloc (.cells #[.int .i64 l.x, .int .i64 l.z, .slice A l.ks.length c] 26) := ⟨_, rfl⟩
  rw [← hW0]
  have HX : Hid (∀ W, Below W0.drew.heap.size W0.drew W → (W.cell? ⟨w.heap.size, 0, none⟩ = some (.int .i64 l.x) ∧ W.cell? ⟨w.heap.size, 1, none⟩ = some (.int .i64 l.z) ∧ W.cell? ⟨w.heap.size, 2, none⟩ = some (.slice A l.ks.length c)) ∧ Below w.heap.size w W) := by
    intro W h
    rw [hW0] at h
    have bx := fun j v hv => (At.new w #[.int .i64 l.x, .int .i64 l.z, .slice A l.ks.length c] 26 j v hv).drew.below h
    exact ⟨⟨(bx 0 _ rfl).1, (bx 1 _ rfl).1, (bx 2 _ rfl).1⟩, below_tr (below_alloc1 _ _) (Below.trans (Below.drew (Below.refl _ _)) h)⟩
  clear hW0
  refine wp_region_mono 8 [9, 10, 11, 12, 13, 14, 15, 16] [[], [], [1], [0, 2], [], [], [5], [4, 6]] [fun v _ => v = .agg #[.int .i64 l.x, .int .i64 l.z, .slice A l.ks.length c], fun v _ => v = .slice A' b.length c', fun v w => Sl e1 1 w v (b.map Prod.fst), fun v w => Sl e2 2 w v ts1, fun v _ => v = .agg #[.int .i64 l.x, .int .i64 l.z, .slice A l.ks.length c], fun v _ => v = .slice A' b.length c', fun v w => Sl e1 1 w v (b.map Prod.snd), fun v w => Sl e2 2 w v ts2] (by kernel_rfl) (by kernel_rfl) ⟨st_eq _, st_eq _, st_sl _ _ _, st_sl _ _ _, st_eq _, st_eq _, st_sl _ _ _, st_sl _ _ _, trivial⟩ ?_ ?_
  · simp only [List.take_succ_cons, List.take_zero, steps, and_true]
    refine ⟨?_, ?_, ?_, ?_, ?_, ?_, ?_, ?_⟩
    · intro x W hB _; simp only [putX, setX, List.foldl_cons, List.foldl_nil]; obtain ⟨⟨c0, c1, c2⟩, _⟩ := HX.out W hB; refine ⟨?_⟩; go_simp; exact ⟨rfl, Below.refl _ _⟩
    · intro x W hB _; simp only [putX, setX, List.foldl_cons, List.foldl_nil]; refine ⟨?_⟩; go_simp; exact ⟨rfl, Below.refl _ _⟩
    · intro x W hB hN; simp only [needs, sAt, dAt] at hN; simp only [putX, setX, List.foldl_cons, List.foldl_nil]; refine ⟨?_⟩; go_simp; refine (HE1.out _ (HX.out W hB).2).mono ?_; rintro e w' ⟨r, rfl, hr, hb⟩; exact ⟨_, rfl, hr, hb⟩
    · intro x W hB hN; simp only [needs, sAt, dAt] at hN; simp only [putX, setX, List.foldl_cons, List.foldl_nil]; refine ⟨?_⟩; go_simp; refine (HT1.out _ _ (HX.out W hB).2 hN.2.1).mono ?_; rintro e w' ⟨r, rfl, hr, hb⟩; exact ⟨_, rfl, hr, hb⟩
    · intro x W hB _; simp only [putX, setX, List.foldl_cons, List.foldl_nil]; obtain ⟨⟨c0, c1, c2⟩, _⟩ := HX.out W hB; refine ⟨?_⟩; go_simp; exact ⟨rfl, Below.refl _ _⟩
    · intro x W hB _; simp only [putX, setX, List.foldl_cons, List.foldl_nil]; refine ⟨?_⟩; go_simp; exact ⟨rfl, Below.refl _ _⟩
    · intro x W hB hN; simp only [needs, sAt, dAt] at hN; simp only [putX, setX, List.foldl_cons, List.foldl_nil]; refine ⟨?_⟩; go_simp; refine (HE2.out _ (HX.out W hB).2).mono ?_; rintro e w' ⟨r, rfl, hr, hb⟩; exact ⟨_, rfl, hr, hb⟩
    · intro x W hB hN; simp only [needs, sAt, dAt] at hN; simp only [putX, setX, List.foldl_cons, List.foldl_nil]; refine ⟨?_⟩; go_simp; refine (HT2.out _ _ (HX.out W hB).2 hN.2.1).mono ?_; rintro e w' ⟨r, rfl, hr, hb⟩; exact ⟨_, rfl, hr, hb⟩
  · intro y W1 hB hA
    simp only [allSp] at hA
    have q1 := hA.2.2.2.1
    have q2 := hA.2.2.2.2.2.2.2.1
    obtain ⟨A1, ca, f1, _⟩ := q1.form
    rw [f1] at q1
    obtain ⟨ba, oa, rfl, _, _⟩ := q1.at2 (k := 0) h01
    obtain ⟨A2, cc, f2, _⟩ := q2.form
    rw [f2] at q2
    obtain ⟨bc, oc, rfl, _, _⟩ := q2.at2 (k := 0) h02
    have HS1 := Lib.hid q1
    have HS2 := Lib.hid q2
    have HB1 := Lib.hid (HX.out W1 hB).2
    clear hA hB q1 q2 HX HE1 HE2 HT1 HT2
    simp only [putX, setX, List.foldl_cons, List.foldl_nil, List.drop_succ_cons, List.drop_zero, f1, f2, List.setIfInBounds_toArray, List.set_cons_succ, List.set_cons_zero]
    clear f1 f2
    go_wp2_with fail
    go_loopw [7, 8] (fun r i wr => ∃ k : Nat, k ≤ ts1.length ∧ i = .int .i64 k ∧ Ow e2 2 66 W1.heap.size wr r (ps.take k) ∧ Below W1.heap.size W1 wr) (fun _ i _ => ts1.length - (intOf i).toNat)
    case atStart => exact ⟨0, Nat.zero_le _, rfl, Ow.nil _ _ _ _ _, Below.refl _ _⟩
    case round =>
      obtain ⟨k, hk, rfl, hown, hb⟩ := hrel
      have HO := Lib.hid hown
      have HB := Lib.hid hb
      clear hown
      by_cases hlt : k < ts1.length
      · have hlt2 : k < ts2.length := by rw [HLN.out.2.1, ← HLN.out.1]; exact hlt
        have hltp : k < ps.length := by rw [HLN.out.2.2, ← HLN.out.1]; exact hlt
        have hat := HAT.out k hltp hlt hlt2
        have htk := List.take_succ_eq_append_getElem (l := ps) (i := k) hltp
        rw [hat] at htk
        have HA1 := Lib.hid (fun W (h : Below W1.heap.size W1 W) => (HS1.out.below h).at2 (k := k) hlt)
        have HA2 := Lib.hid (fun W (h : Below W1.heap.size W1 W) => (HS2.out.below h).at2 (k := k) hlt2)
        have hacc : (ps.take k).length ≤ 10 := Nat.le_trans (List.length_take_le _ _) (by omega)
        have hk1 : (k : Int) < (ts1.length : Int) := by omega
        have hk2 : (k : Int) < (ts2.length : Int) := by omega
        have hk0 : (0 : Int) ≤ (k : Int) := by omega
        have HTK := Lib.hid htk
        clear hb hat htk
        generalize ts1[k] = t at *
        generalize ts2[k] = s at *
        obtain ⟨x1, y1⟩ := t
        obtain ⟨x2, y2⟩ := s
        simp only at *
        generalize ps.take k = acc at *
        have HX6 : Hid (∀ W, Below wr.drew.heap.size wr.drew W → W.cell? ⟨ba, oa + k * 2, none⟩ = some (.int .i64 x1) ∧ W.cell? ⟨bc, oc + k * 2, none⟩ = some (.int .i64 x2) ∧ Ow e2 2 66 W1.heap.size W u7 acc ∧ Below W1.heap.size W1 W) := by
          intro W hW
          have hb0 : Below wr.heap.size wr W := Below.trans (Below.drew (Below.refl _ _)) hW
          have hb' : Below W1.heap.size W1 W := below_tr HB.out hb0
          obtain ⟨b0, o0, e0, _, ca1, _⟩ := HA1.out W hb'
          injection e0 with e0
          injection e0 with e01 e02
          subst e01; subst e02
          obtain ⟨b0, o0, e0, _, cb1, _⟩ := HA2.out W hb'
          injection e0 with e0
          injection e0 with e01 e02
          subst e01; subst e02
          exact ⟨ca1, cb1, HO.out.below hb0, hb'⟩
        go_wp2_with fail
        refine wp_region_mono 13 [23, 24, 25, 26, 27, 28, 29, 30, 31, 32, 33, 34, 35] [[], [], [], [1, 2], [3], [4], [], [], [6, 7], [8], [9], [5, 10], [11]] [fun v _ => v = u7, fun v _ => v = .slice (some ⟨ba, oa, none⟩) ts1.length ca, fun v _ => v = .int .i64 k, fun v _ => v = .pointer (some ⟨ba, oa + k * 2, none⟩), fun v _ => v = .pointer (some ⟨ba, oa + k * 2, none⟩), fun v _ => v = .int .i64 x1, fun v _ => v = .slice (some ⟨bc, oc, none⟩) ts2.length cc, fun v _ => v = .int .i64 k, fun v _ => v = .pointer (some ⟨bc, oc + k * 2, none⟩), fun v _ => v = .pointer (some ⟨bc, oc + k * 2, none⟩), fun v _ => v = .int .i64 x2, fun v _ => v = .agg #[.int .i64 x1, .int .i64 x2], fun v w => Sl e2 2 w v [(x1, x2)]] (by kernel_rfl) (by kernel_rfl) ⟨st_eq _, st_eq _, st_eq _, st_eq _, st_eq _, st_eq _, st_eq _, st_eq _, st_eq _, st_eq _, st_eq _, st_eq _, st_sl _ _ _, trivial⟩ ?_ ?_
        · simp only [List.take_succ_cons, List.take_zero, steps, and_true]
          refine ⟨?_, ?_, ?_, ?_, ?_, ?_, ?_, ?_, ?_, ?_, ?_, ?_, ?_⟩
          · intro x W hB _; simp only [putX, setX, List.foldl_cons, List.foldl_nil]; refine ⟨?_⟩; go_simp; exact ⟨rfl, Below.refl _ _⟩
          · intro x W hB _; simp only [putX, setX, List.foldl_cons, List.foldl_nil]; refine ⟨?_⟩; go_simp; exact ⟨rfl, Below.refl _ _⟩
          · intro x W hB _; simp only [putX, setX, List.foldl_cons, List.foldl_nil]; refine ⟨?_⟩; go_simp; exact ⟨rfl, Below.refl _ _⟩
          · intro x W hB hN; simp only [needs, sAt, dAt] at hN; simp only [putX, setX, List.foldl_cons, List.foldl_nil]; refine ⟨?_⟩; go_simp; exact ⟨rfl, Below.refl _ _⟩
          · intro x W hB hN; simp only [needs, sAt, dAt] at hN; simp only [putX, setX, List.foldl_cons, List.foldl_nil]; refine ⟨?_⟩; go_simp; exact ⟨rfl, Below.refl _ _⟩
          · intro x W hB hN; simp only [needs, sAt, dAt] at hN; simp only [putX, setX, List.foldl_cons, List.foldl_nil]; obtain ⟨x0, x1, _⟩ := HX6.out W hB; refine ⟨?_⟩; go_simp; exact ⟨rfl, Below.refl _ _⟩
          · intro x W hB _; simp only [putX, setX, List.foldl_cons, List.foldl_nil]; refine ⟨?_⟩; go_simp; exact ⟨rfl, Below.refl _ _⟩
          · intro x W hB _; simp only [putX, setX, List.foldl_cons, List.foldl_nil]; refine ⟨?_⟩; go_simp; exact ⟨rfl, Below.refl _ _⟩
          · intro x W hB hN; simp only [needs, sAt, dAt] at hN; simp only [putX, setX, List.foldl_cons, List.foldl_nil]; refine ⟨?_⟩; go_simp; exact ⟨rfl, Below.refl _ _⟩
          · intro x W hB hN; simp only [needs, sAt, dAt] at hN; simp only [putX, setX, List.foldl_cons, List.foldl_nil]; refine ⟨?_⟩; go_simp; exact ⟨rfl, Below.refl _ _⟩
          · intro x W hB hN; simp only [needs, sAt, dAt] at hN; simp only [putX, setX, List.foldl_cons, List.foldl_nil]; obtain ⟨x0, x1, _⟩ := HX6.out W hB; refine ⟨?_⟩; go_simp; exact ⟨rfl, Below.refl _ _⟩
          · intro x W hB hN; simp only [needs, sAt, dAt] at hN; simp only [putX, setX, List.foldl_cons, List.foldl_nil]; refine ⟨?_⟩; go_simp; exact ⟨rfl, Below.refl _ _⟩
          · intro x W hB hN; simp only [needs, sAt, dAt] at hN; simp only [putX, setX, List.foldl_cons, List.foldl_nil]; refine ⟨?_⟩; go_simp; exact ⟨slp _ _ _, below_alloc1 _ _⟩
        · intro x W hB hA
          simp only [allSp] at hA
          have q0 := hA.1
          have q1 := hA.2.2.2.2.2.2.2.2.2.2.2.2.1
          obtain ⟨A1, c1, e1', _⟩ := q1.form
          rw [e1'] at q1
          obtain ⟨_, _, ho, hbW⟩ := HX6.out W hB
          clear hA
          simp only [putX, setX, List.foldl_cons, List.foldl_nil, List.drop_succ_cons, List.drop_zero, q0, e1', List.setIfInBounds_toArray, List.set_cons_succ, List.set_cons_zero]
          go_wp2_with (at_builtin; refine wpList_append_sl _ rfl _ _ 27 rfl W1.heap.size 66 i0 _ 2 16 Try.underlying27 hi hz0 hz1 hz2 rfl (by decide) e2_len e2_one _ acc rfl ho A1 1 c1 [(x1, x2)] rfl q1 (by simp; omega) (by decide) hbW.size ?_; intro v1 w4 ho4 hg4)
          have HO4 := Lib.hid ho4
          have HB4 := Lib.hid (ho.grown hg4 hbW (Nat.le_refl _))
          clear ho4 hg4 ho hbW
          go_roundw
          case rel => exact ⟨k + 1, by omega, by go_num, by rw [HTK.out]; exact HO4.out, HB4.out⟩
          case measure => simp [intOf]; omega
      · obtain rfl : k = ts1.length := by omega
        rw [show ps.take ts1.length = ps from List.take_of_length_le (by rw [HLN.out.1, HLN.out.2.2]; exact Nat.le_refl _)] at HO
        clear hb
        go_wp2_with fail
        go_ret
        exact ⟨_, rfl, HO.out.less HB1.out.size, below_tr HB1.out HB.out⟩
end Go.Proofs.Ytghglgaimhfedaa
