/-
  Walks of the reference of readings: a contradiction.
-/
import Derived.Test.YtekinmafdhgmpaaZUi
namespace Go.Proofs.Ytekinmafdhgmpaa
open Go.RowKit Go.Shelf

set_option maxRecDepth 100000 in
set_option maxHeartbeats 8000000 in
theorem rContra_any (v u t : Value) (l : Ln) (b : List (Int × Int)) (r : List Rd) (s : List Int) (ec : Int) (w : World) (hs : Sl e3 3 w v l.ks) (hu : Sl e2 2 w u b) (ht : Sl e3 3 w t r) (hok : readingsErr l b r = 0) (hc : IsC (fR l b r) (gR l b r) r.length s ec) :
    Calls Try.prog 20 #[.agg #[.int .i64 l.x, .int .i64 l.z, v], u, t] w fun e w' => ∃ q, e = .returned (.tuple #[q, .bool (decide (ec = 0))]) ∧ Sl e1 1 w' q s ∧ Below w.heap.size w w' := by
  obtain ⟨hl, hb, _, hr12, hrd⟩ := readingsErr_ok hok
  have HS := Lib.hid hs
  have HU := Lib.hid hu
  have HT := Lib.hid ht
  obtain ⟨A, c, rfl, _⟩ := hs.form
  obtain ⟨A', c', rfl, _⟩ := hu.form
  obtain ⟨A'', c'', rfl, _⟩ := ht.form
  have HIC := Lib.hid hc
  have HL : Hid (∀ k (h : k < r.length) y W, Sl e3 3 W (.slice A l.ks.length c) l.ks → Sl e2 2 W (.slice A' b.length c') b → Sl e3 3 W (.slice A'' r.length c'') r → Sl e1 1 W y [(k : Int)] → Calls Try.prog 60 #[.agg #[.int .i64 l.x, .int .i64 l.z, .slice A l.ks.length c], .slice A' b.length c', .slice A'' r.length c'', y] W fun e w' => e = .returned (.int .i64 (fR l b r k)) ∧ Below W.heap.size W w') :=
    fun k h y W k1 k2 k3 k4 => rApart1_any _ _ _ y l b r k W k1 k2 k3 k4 hl hb h (hrd _ (List.getElem_mem h))
  have HE : Hid (∀ i k (hi : i < r.length) (h : k < r.length) y W, Sl e3 3 W (.slice A l.ks.length c) l.ks → Sl e2 2 W (.slice A' b.length c') b → Sl e3 3 W (.slice A'' r.length c'') r → Sl e1 1 W y [(i : Int), (k : Int)] → Calls Try.prog 60 #[.agg #[.int .i64 l.x, .int .i64 l.z, .slice A l.ks.length c], .slice A' b.length c', .slice A'' r.length c'', y] W fun e w' => e = .returned (.int .i64 (gR l b r i k)) ∧ Below W.heap.size W w') :=
    fun i k hi h y W k1 k2 k3 k4 => rApart2_any _ _ _ y l b r i k W k1 k2 k3 k4 hl hb hi h (hrd _ (List.getElem_mem hi)) (hrd _ (List.getElem_mem h))
  generalize fR l b r = f at *
  generalize gR l b r = g at *
  clear hs hu ht hok hc hl hb hrd
  obtain ⟨w1, hw1⟩ : ∃ w1, w1 = w.alloc (.cells #[.int .i64 l.x, .int .i64 l.z, .slice A l.ks.length c] 26) := ⟨_, rfl⟩
  have HX : Hid (∀ W, Below w1.heap.size w1 W → (W.cell? ⟨w.heap.size, 0, none⟩ = some (.int .i64 l.x) ∧ W.cell? ⟨w.heap.size, 1, none⟩ = some (.int .i64 l.z) ∧ W.cell? ⟨w.heap.size, 2, none⟩ = some (.slice A l.ks.length c)) ∧ Sl e3 3 W (.slice A l.ks.length c) l.ks ∧ Sl e2 2 W (.slice A' b.length c') b ∧ Sl e3 3 W (.slice A'' r.length c'') r ∧ Below w.heap.size w W) := by
    intro W h
    rw [hw1] at h
    have hb : Below w.heap.size w W := below_tr (below_alloc1 _ _) h
    have bx := fun j v hv => (At.new w #[.int .i64 l.x, .int .i64 l.z, .slice A l.ks.length c] 26 j v hv).below h
    exact ⟨⟨(bx 0 _ rfl).1, (bx 1 _ rfl).1, (bx 2 _ rfl).1⟩, HS.out.below hb, HU.out.below hb, HT.out.below hb, hb⟩
  clear HS HU HT
  go_enter Try.func20, Try.ntmps20
  go_wp2_with fail
  rw [← hw1]
  clear hw1
  go_loopw [8] (fun i wr => ∃ k : Nat, k ≤ r.length ∧ i = .int .i64 k ∧ (∀ j, j < k → f j ≤ 0) ∧ Below w1.heap.size w1 wr) (fun i _ => r.length - (intOf i).toNat)
  case atStart => exact ⟨0, Nat.zero_le _, rfl, fun j h => absurd h (Nat.not_lt_zero j), Below.refl _ _⟩
  case round =>
    obtain ⟨k, hk, rfl, hall, hb⟩ := hrel
    have HB := Lib.hid hb
    have HALL := Lib.hid hall
    clear hb hall
    by_cases hlt : k < r.length
    · have HK := Lib.hid (HL.out k hlt)
      obtain ⟨⟨g0, g1, g2⟩, _⟩ := HX.out wr HB.out
      have hkl : (k : Int) < (r.length : Int) := by omega
      have hk0 : (0 : Int) ≤ (k : Int) := by omega
      have HHK := Lib.hid (fun W (h : Below wr.heap.size wr W) => HX.out W (below_tr HB.out h))
      have HSK := Lib.hid (sl1 wr (k : Int) 3)
      by_cases hp : 0 < f k
      · obtain ⟨rfl, rfl⟩ := HIC.out.at1 hlt hp (fun j hj => by have := HALL.out j hj; omega)
        have hm' : decide (0 < f k) = true := decide_eq_true hp
        generalize f k = d at *
        go_wp2_with (go_at_call 60; refine (HK.out _ _ (HHK.out _ (below_alloc1 _ _)).2.1 (HHK.out _ (below_alloc1 _ _)).2.2.1 (HHK.out _ (below_alloc1 _ _)).2.2.2.1 (by simpa using HSK.out)).mono ?_; rintro e w2 ⟨rfl, b2⟩)
        go_ret2
        exact ⟨_, rfl, by simpa using sl1 w2 (k : Int) 3, below_al (below_tr (HX.out _ (below_al HB.out _)).2.2.2.2 b2) _⟩
      · have hm : f k ≤ 0 := by omega
        have hm' : decide (0 < f k) = false := decide_eq_false hp
        have HM := Lib.hid hm
        clear hp hm
        obtain ⟨d, hd⟩ : ∃ d, f k = d := ⟨_, rfl⟩
        rw [hd] at HK HM hm'
        have HFD := Lib.hid hd
        clear hd
        go_wp2_with (go_at_call 60; refine (HK.out _ _ (HHK.out _ (below_alloc1 _ _)).2.1 (HHK.out _ (below_alloc1 _ _)).2.2.1 (HHK.out _ (below_alloc1 _ _)).2.2.2.1 (by simpa using HSK.out)).mono ?_; rintro e w2 ⟨rfl, b2⟩)
        go_roundw
        case rel =>
          refine ⟨k + 1, by omega, by go_num, fun j hj => ?_, below_tr (below_al HB.out _) b2⟩
          by_cases hjk : j = k
          · subst hjk; rw [HFD.out]; exact HM.out
          · exact HALL.out j (by omega)
        case measure => simp [intOf]; omega
    · obtain rfl : k = r.length := by omega
      generalize wr = wA at *
      have HPF := Lib.hid (fun W (h : Below wA.heap.size wA W) => HX.out W (below_tr HB.out h))
      go_wp2_with fail
      go_loopg [9, 10] r.length (fun gm i _ wq => ∃ k : Nat, k ≤ r.length ∧ gm = r.length - k ∧ i = .int .i64 k ∧ (∀ a b, a < b → b < r.length → a < k → g a b ≤ 0) ∧ Below wA.heap.size wA wq)
      case atStart => exact ⟨0, Nat.zero_le _, rfl, rfl, fun a b _ _ h => absurd h (Nat.not_lt_zero a), Below.refl _ _⟩
      case round =>
        obtain ⟨k, hk, rfl, rfl, hpr, hb⟩ := hrel
        generalize wr = wQ at *
        have HB2 := Lib.hid hb
        have HPR := Lib.hid hpr
        clear hb hpr
        by_cases hlt2 : k < r.length
        · have hkl : (k : Int) < (r.length : Int) := by omega
          have hk0 : (0 : Int) ≤ (k : Int) := by omega
          have hwk : IntKind.i64.wrap ((k : Int) + 1) = (k : Int) + 1 := IntWalk.i64_in _ (by omega)
          have HKE := Lib.hid (fun j hj => HE.out k j hlt2 hj)
          go_wp2_with fail
          go_loopg [10] (r.length - (k + 1)) (fun gm i wi => ∃ j : Nat, k + 1 ≤ j ∧ j ≤ r.length ∧ gm = r.length - j ∧ i = .int .i64 j ∧ (∀ b, k < b → b < j → g k b ≤ 0) ∧ Below wQ.heap.size wQ wi)
          case atStart => exact ⟨k + 1, Nat.le_refl _, by omega, rfl, by go_num, fun b h1 h2 => by omega, Below.refl _ _⟩
          case round =>
            obtain ⟨j, hj1, hj, rfl, rfl, hpq, hb⟩ := hrel
            generalize wr = wI at *
            have HB3 := Lib.hid hb
            have HPQ := Lib.hid hpq
            clear hb hpq
            by_cases hlt3 : j < r.length
            · have HK := Lib.hid (HKE.out j hlt3)
              have hjl : (j : Int) < (r.length : Int) := by omega
              have hj0 : (0 : Int) ≤ (j : Int) := by omega
              have HHK := Lib.hid (fun W (h : Below wI.heap.size wI W) => HPF.out W (below_tr (below_tr HB2.out HB3.out) h))
              obtain ⟨⟨g0, g1, g2⟩, _⟩ := HHK.out wI (Below.refl _ _)
              have HSK := Lib.hid (sl2 wI (k : Int) (j : Int) 3)
              obtain ⟨dv, hdv⟩ : ∃ dv, dv = g k j := ⟨_, rfl⟩
              rw [← hdv] at HK
              have hdc : (0 < g k j ∧ decide (0 < dv) = true) ∨ (¬ 0 < g k j ∧ decide (0 < dv) = false) := by
                by_cases hp : 0 < g k j
                · exact .inl ⟨hp, decide_eq_true (by rw [hdv]; exact hp)⟩
                · exact .inr ⟨hp, decide_eq_false (by rw [hdv]; exact hp)⟩
              clear hdv
              rcases hdc with ⟨hp, hd1⟩ | ⟨hp, hd1⟩
              · obtain ⟨rfl, rfl⟩ := HIC.out.at2 (fun j hj => by have := HALL.out j hj; omega) (i := k) (k := j) (by omega) hlt3 hp (fun a b h1 h2 h3 => by
                  rcases h3 with h3 | ⟨rfl, h3⟩
                  · have := HPR.out a b h1 h2 h3; omega
                  · have := HPQ.out b h1 h3; omega)
                clear hp
                go_wp2_with (go_at_call 60; refine (HK.out _ _ (HHK.out _ (below_alloc1 _ _)).2.1 (HHK.out _ (below_alloc1 _ _)).2.2.1 (HHK.out _ (below_alloc1 _ _)).2.2.2.1 (by simpa using HSK.out)).mono ?_; rintro e w2 ⟨rfl, b2⟩)
                go_ret2
                exact ⟨_, rfl, by simpa using sl2 w2 (k : Int) (j : Int) 3, below_al (below_tr (HHK.out _ (below_alloc1 _ _)).2.2.2.2 b2) _⟩
              · have HNP := Lib.hid hp
                clear hp
                go_wp2_with (go_at_call 60; refine (HK.out _ _ (HHK.out _ (below_alloc1 _ _)).2.1 (HHK.out _ (below_alloc1 _ _)).2.2.1 (HHK.out _ (below_alloc1 _ _)).2.2.2.1 (by simpa using HSK.out)).mono ?_; rintro e w2 ⟨rfl, b2⟩)
                go_roundg (r.length - (j + 1))
                case measure => omega
                case rel =>
                  refine ⟨j + 1, by omega, by omega, rfl, by go_num, fun b h1 h2 => ?_, below_tr (below_al HB3.out _) b2⟩
                  by_cases hbj : b = j
                  · subst hbj; have := HNP.out; omega
                  · exact HPQ.out b h1 (by omega)
            · obtain rfl : j = r.length := by omega
              go_wp2_with fail
              go_roundg (r.length - (k + 1))
              case measure => omega
              case rel =>
                refine ⟨k + 1, by omega, rfl, by go_num, fun a b h1 h2 h3 => ?_, below_tr HB2.out HB3.out⟩
                by_cases hak : a = k
                · subst hak; exact HPQ.out b h1 h2
                · have := HPR.out a b h1 h2 (by omega); omega
        · obtain rfl : k = r.length := by omega
          obtain ⟨rfl, rfl⟩ := HIC.out.at0 (fun j hj => by have := HALL.out j hj; omega) fun a b h1 h2 => by have := HPR.out a b h1 h2 (by omega); omega
          go_wp2_with fail
          go_ret2
          exact ⟨_, rfl, Sl.nil _ _ _, (HPF.out _ HB2.out).2.2.2.2⟩
end Go.Proofs.Ytekinmafdhgmpaa

namespace Go.Proofs.Ytekinmafdhgmpaa
open Go.RowKit Go.Shelf

theorem set_first {n : Nat} {s : List Int} (hs : s.length = 1 ∨ s.length = 2) {k : Nat} (hk : k < s.length) (hp : ∀ j (h : j < s.length), j < k → stErr n (befor s j) s[j] = 0) (he : stErr n (befor s k) s[k] ≠ 0) : setErr n s = stErr n (befor s k) s[k] := by
  match s, hs with
  | [i], _ =>
    obtain rfl : k = 0 := by simpa using hk
    rfl
  | [i, j], _ =>
    have : k = 0 ∨ k = 1 := by simp at hk; omega
    rcases this with rfl | rfl
    · show (if stErr n (-1) i = 0 then stErr n i j else stErr n (-1) i) = _
      exact if_neg he
    · have h0 : stErr n (-1) i = 0 := hp 0 (by simp) (by omega)
      show (if stErr n (-1) i = 0 then stErr n i j else stErr n (-1) i) = _
      rw [if_pos h0]
      rfl
  | [], h => exact absurd h (by simp)
  | _ :: _ :: _ :: _, h => exact absurd h (by simp)
theorem set_none {n : Nat} {s : List Int} (hs : s.length = 1 ∨ s.length = 2) (hp : ∀ j (h : j < s.length), stErr n (befor s j) s[j] = 0) : setErr n s = 0 := by
  match s, hs with
  | [i], _ => exact hp 0 (by simp)
  | [i, j], _ =>
    have h0 : stErr n (-1) i = 0 := hp 0 (by simp)
    have h1 : stErr n i j = 0 := hp 1 (by simp)
    show (if stErr n (-1) i = 0 then stErr n i j else stErr n (-1) i) = 0
    rw [if_pos h0, h1]
  | [], h => exact absurd h (by simp)
  | _ :: _ :: _ :: _, h => exact absurd h (by simp)
theorem set_bad {n : Nat} {s : List Int} (hs : ¬ (s.length = 1 ∨ s.length = 2)) : setErr n s = 10 := by
  match s, hs with
  | [], _ => rfl
  | [_], h => exact absurd (.inl rfl) h
  | [_, _], h => exact absurd (.inr rfl) h
  | _ :: _ :: _ :: _, _ => rfl
set_option maxRecDepth 100000 in
set_option maxHeartbeats 8000000 in
theorem rSetErr_any (v u t y : Value) (l : Ln) (b : List (Int × Int)) (r : List Rd) (s : List Int) (w : World) (hs : Sl e3 3 w v l.ks) (hu : Sl e2 2 w u b) (ht : Sl e3 3 w t r) (hy : Sl e1 1 w y s) (hok : readingsErr l b r = 0) :
    Calls Try.prog 22 #[.agg #[.int .i64 l.x, .int .i64 l.z, v], u, t, y] w fun e w' => e = .returned (.tuple #[.int .i64 (setRes l b r s).1, .int .i64 (setRes l b r s).2]) ∧ Below w.heap.size w w' := by
  obtain ⟨hl, hb, _, hr12, hrd⟩ := readingsErr_ok hok
  have HS := Lib.hid hs
  have HU := Lib.hid hu
  have HT := Lib.hid ht
  have HY := Lib.hid hy
  obtain ⟨A, c, rfl, _⟩ := hs.form
  obtain ⟨A', c', rfl, _⟩ := hu.form
  obtain ⟨A'', c'', rfl, _⟩ := ht.form
  by_cases h : s.length = 1 ∨ s.length = 2
  · have HAP : Hid (setErr r.length s = 0 → ∀ W, Sl e3 3 W (.slice A l.ks.length c) l.ks → Sl e2 2 W (.slice A' b.length c') b → Sl e3 3 W (.slice A'' r.length c'') r → Sl e1 1 W y s → Calls Try.prog 60 #[.agg #[.int .i64 l.x, .int .i64 l.z, .slice A l.ks.length c], .slice A' b.length c', .slice A'' r.length c'', y] W fun e w' => e = .returned (.int .i64 (dC l b r s)) ∧ Below W.heap.size W w') := by
      intro h0 W k1 k2 k3 k4
      rcases setErr_ok h0 with ⟨i, hi, rfl⟩ | ⟨i, j, hij, hj, rfl⟩
      · exact rApart1_any _ _ _ y l b r i W k1 k2 k3 k4 hl hb hi (hrd _ (List.getElem_mem hi))
      · exact rApart2_any _ _ _ y l b r i j W k1 k2 k3 k4 hl hb (by omega) hj (hrd _ (List.getElem_mem _)) (hrd _ (List.getElem_mem _))
    have HRS : Hid (setRes l b r s = if setErr r.length s = 0 then (if 0 < dC l b r s then (dC l b r s, 0) else (0, 19)) else (0, setErr r.length s)) := rfl
    have HFI := Lib.hid (fun k => set_first (n := r.length) (s := s) (k := k) h)
    have HNO := Lib.hid (set_none (n := r.length) (s := s) h)
    generalize setRes l b r s = res at *
    generalize dC l b r s = d at *
    generalize setErr r.length s = se at *
    clear hs hu ht hok hl hb hrd
    obtain ⟨A3, c3, rfl, _⟩ := hy.form
    have hsl : s.length ≤ 2 := by omega
    have hd : ((s.length : Int) != 1) = false ∨ ((s.length : Int) != 1) = true ∧ ((s.length : Int) != 2) = false := by
      rcases h with h | h
      · left; rw [h]; rfl
      · right; rw [h]; exact ⟨rfl, rfl⟩
    have hw0 : IntKind.i64.wrap ((r.length : Int) - 1) = (r.length : Int) - 1 := IntWalk.i64_in _ (by omega)
    have HWI := Lib.hid (fun (n lo hi : Int) (w : World) => Within_any n lo hi w)
    obtain ⟨w1, hw1⟩ : ∃ w1, w1 = w.alloc (.cells #[.int .i64 l.x, .int .i64 l.z, .slice A l.ks.length c] 26) := ⟨_, rfl⟩
    have HX : Hid (∀ W, Below w1.heap.size w1 W → (W.cell? ⟨w.heap.size, 0, none⟩ = some (.int .i64 l.x) ∧ W.cell? ⟨w.heap.size, 1, none⟩ = some (.int .i64 l.z) ∧ W.cell? ⟨w.heap.size, 2, none⟩ = some (.slice A l.ks.length c)) ∧ Sl e3 3 W (.slice A l.ks.length c) l.ks ∧ Sl e2 2 W (.slice A' b.length c') b ∧ Sl e3 3 W (.slice A'' r.length c'') r ∧ Sl e1 1 W (.slice A3 s.length c3) s ∧ Below w.heap.size w W) := by
      intro W h
      rw [hw1] at h
      have hb : Below w.heap.size w W := below_tr (below_alloc1 _ _) h
      have bx := fun j v hv => (At.new w #[.int .i64 l.x, .int .i64 l.z, .slice A l.ks.length c] 26 j v hv).below h
      exact ⟨⟨(bx 0 _ rfl).1, (bx 1 _ rfl).1, (bx 2 _ rfl).1⟩, HS.out.below hb, HU.out.below hb, HT.out.below hb, HY.out.below hb, hb⟩
    clear HS HU HT HY h hy
    go_enter Try.func22, Try.ntmps22
    rcases hd with hd1 | ⟨hd1, hd2⟩
    · go_wp2_with fail
      rw [← hw1]
      clear hw1
      go_loopw [10] (fun i wr => ∃ k : Nat, k ≤ s.length ∧ i = .int .i64 k ∧ (∀ j (h : j < s.length), j < k → stErr r.length (befor s j) s[j] = 0) ∧ Below w1.heap.size w1 wr) (fun i _ => s.length - (intOf i).toNat)
      case atStart => exact ⟨0, Nat.zero_le _, rfl, fun j _ h => absurd h (Nat.not_lt_zero j), Below.refl _ _⟩
      case round =>
        obtain ⟨k, hk, rfl, hall, hb⟩ := hrel
        have HB := Lib.hid hb
        have HALL := Lib.hid hall
        clear hb hall
        by_cases hlt : k < s.length
        · obtain ⟨bs, os, rfl, _, c0⟩ := (HX.out wr HB.out).2.2.2.2.1.at1 hlt
          have HF1 := Lib.hid (HFI.out k hlt HALL.out)
          have hkl : (k : Int) < (s.length : Int) := by omega
          have hk0 : (0 : Int) ≤ (k : Int) := by omega
          obtain ⟨bw, hbw⟩ : ∃ bw, inB s[k] 0 ((r.length : Int) - 1) = bw := ⟨_, rfl⟩
          have HW9 := Lib.hid (fun w => HWI.out s[k] 0 ((r.length : Int) - 1) w)
          rw [hbw] at HW9
          cases bw with
          | false =>
            have h6 : stErr r.length (befor s k) s[k] = 6 := by
              have := inB_no hbw
              unfold stErr; rw [if_neg (by omega)]
            have E : Hid (res = (0, 6)) := by
              have h := HF1.out (by rw [h6]; decide)
              have h2 := HRS.out
              rw [h, h6, if_neg (by decide)] at h2
              exact h2
            clear h6 hbw
            generalize s[k] = sk at *
            go_wp2_with (go_at_call 26; refine (HW9.out _).mono ?_; rintro e w' ⟨rfl, rfl⟩)
            go_ret2
            exact ⟨ret_c E.out, (HX.out _ HB.out).2.2.2.2.2⟩
          | true =>
            have hin := inB_iff.1 hbw
            have hst : stErr r.length (befor s k) s[k] = if s[k] ≤ befor s k then 9 else 0 := by unfold stErr; rw [if_pos (by omega)]
            by_cases hkz : k = 0
            · have h0 : stErr r.length (befor s k) s[k] = 0 := by
                rw [hst, if_neg]
                have : befor s k = -1 := by unfold befor; rw [dif_neg (by omega)]
                omega
              have H0 := Lib.hid h0
              have hz1 : decide ((0 : Int) < (k : Int)) = false := decide_eq_false (by omega)
              have hz2 : ¬ 0 < k := by omega
              have hz2' : decide (0 < k) = false := decide_eq_false hz2
              clear h0 hst hin hbw
              obtain ⟨sk, hsk⟩ : ∃ sk, s[k] = sk := ⟨_, rfl⟩
              rw [hsk] at c0 HW9
              clear hsk
              have HKZ := Lib.hid hkz
              clear hkz
              go_wp2_with (go_at_call 26; refine (HW9.out _).mono ?_; rintro e w' ⟨rfl, rfl⟩)
              go_quiet (fail)
              go_wp2_with fail
              go_roundw
              case rel =>
                refine ⟨k + 1, by omega, by go_num, fun j h hj => ?_, below_drN HB.out _⟩
                by_cases hjk : j = k
                · subst hjk; exact H0.out
                · exact HALL.out j h (by omega)
              case measure => simp [intOf]; omega
            · obtain ⟨km, hkm⟩ : ∃ km, km = k - 1 := ⟨_, rfl⟩
              have hkm1 : km < s.length := by omega
              obtain ⟨_, _, ep, _, c1⟩ := (HX.out wr HB.out).2.2.2.2.1.at1 (k := km) hkm1
              injection ep with ep
              injection ep with ep1 ep2
              subst ep1; subst ep2
              have hbe : befor s k = s[km] := by unfold befor; rw [dif_pos (by omega)]; simp only [hkm]
              have hwk : IntKind.i64.wrap ((k : Int) - 1) = (km : Int) := by rw [show (k : Int) - 1 = (km : Int) by omega]; exact IntWalk.i64_in _ (by omega)
              have hz1 : (0 : Int) < (k : Int) := by omega
              have hz1' : decide ((0 : Int) < (k : Int)) = true := decide_eq_true hz1
              have hz2 : 0 < k := by omega
              have hz2' : decide (0 < k) = true := decide_eq_true hz2
              have hml : (km : Int) < (s.length : Int) := by omega
              have hm0 : (0 : Int) ≤ (km : Int) := by omega
              rw [hbe] at hst
              have HBE := Lib.hid hbe
              clear hbe hkm
              obtain ⟨sk, hsk⟩ : ∃ sk, s[k] = sk := ⟨_, rfl⟩
              obtain ⟨sm, hsm⟩ : ∃ sm, s[km] = sm := ⟨_, rfl⟩
              by_cases hle : s[k] ≤ s[km]
              · rw [if_pos hle] at hst
                have E : Hid (res = (0, 9)) := by
                  have h := HF1.out (by rw [HBE.out, hst]; decide)
                  have h2 := HRS.out
                  rw [h, HBE.out, hst, if_neg (by decide)] at h2
                  exact h2
                rw [hsk] at c0 HW9 hle
                rw [hsm] at c1 hle
                have hle' : decide (sk ≤ sm) = true := decide_eq_true hle
                clear hst hsk hsm hin hbw
                go_wp2_with (go_at_call 26; refine (HW9.out _).mono ?_; rintro e w' ⟨rfl, rfl⟩)
                go_quiet (fail)
                go_wp2_with fail
                go_ret2
                exact ⟨ret_c E.out, below_drN (HX.out _ HB.out).2.2.2.2.2 _⟩
              · rw [if_neg hle] at hst
                have H0 : Hid (stErr r.length (befor s k) s[k] = 0) := by rw [HBE.out]; exact hst
                rw [hsk] at c0 HW9 hle
                rw [hsm] at c1 hle
                have hle' : decide (sk ≤ sm) = false := decide_eq_false hle
                clear hst hsk hsm hin hbw
                go_wp2_with (go_at_call 26; refine (HW9.out _).mono ?_; rintro e w' ⟨rfl, rfl⟩)
                go_quiet (fail)
                go_wp2_with fail
                go_roundw
                case rel =>
                  refine ⟨k + 1, by omega, by go_num, fun j h hj => ?_, below_drN HB.out _⟩
                  by_cases hjk : j = k
                  · subst hjk; exact H0.out
                  · exact HALL.out j h (by omega)
                case measure => simp [intOf]; omega
        · obtain rfl : k = s.length := by omega
          have h0 : se = 0 := HNO.out fun j h => HALL.out j h h
          have hrs := HRS.out
          rw [if_pos h0] at hrs
          have HA := Lib.hid (HAP.out h0)
          clear h0
          have HHK := Lib.hid (HX.out wr HB.out)
          obtain ⟨⟨g0, g1, g2⟩, _⟩ := HX.out wr HB.out
          by_cases hp : 0 < d
          · rw [if_pos hp] at hrs
            have E := Lib.hid hrs
            have hp' : decide (d ≤ 0) = false := decide_eq_false (by omega)
            clear hrs hp
            go_wp2_with (go_at_call 60; refine (HA.out _ HHK.out.2.1 HHK.out.2.2.1 HHK.out.2.2.2.1 HHK.out.2.2.2.2.1).mono ?_; rintro e w2 ⟨rfl, b2⟩)
            go_ret2
            exact ⟨ret_c E.out, below_tr HHK.out.2.2.2.2.2 b2⟩
          · rw [if_neg hp] at hrs
            have E := Lib.hid hrs
            have hp' : decide (d ≤ 0) = true := decide_eq_true (by omega)
            clear hrs hp
            go_wp2_with (go_at_call 60; refine (HA.out _ HHK.out.2.1 HHK.out.2.2.1 HHK.out.2.2.2.1 HHK.out.2.2.2.2.1).mono ?_; rintro e w2 ⟨rfl, b2⟩)
            go_ret2
            exact ⟨ret_c E.out, below_tr HHK.out.2.2.2.2.2 b2⟩
    · go_wp2_with fail
      rw [← hw1]
      clear hw1
      go_loopw [10] (fun i wr => ∃ k : Nat, k ≤ s.length ∧ i = .int .i64 k ∧ (∀ j (h : j < s.length), j < k → stErr r.length (befor s j) s[j] = 0) ∧ Below w1.heap.size w1 wr) (fun i _ => s.length - (intOf i).toNat)
      case atStart => exact ⟨0, Nat.zero_le _, rfl, fun j _ h => absurd h (Nat.not_lt_zero j), Below.refl _ _⟩
      case round =>
        obtain ⟨k, hk, rfl, hall, hb⟩ := hrel
        have HB := Lib.hid hb
        have HALL := Lib.hid hall
        clear hb hall
        by_cases hlt : k < s.length
        · obtain ⟨bs, os, rfl, _, c0⟩ := (HX.out wr HB.out).2.2.2.2.1.at1 hlt
          have HF1 := Lib.hid (HFI.out k hlt HALL.out)
          have hkl : (k : Int) < (s.length : Int) := by omega
          have hk0 : (0 : Int) ≤ (k : Int) := by omega
          obtain ⟨bw, hbw⟩ : ∃ bw, inB s[k] 0 ((r.length : Int) - 1) = bw := ⟨_, rfl⟩
          have HW9 := Lib.hid (fun w => HWI.out s[k] 0 ((r.length : Int) - 1) w)
          rw [hbw] at HW9
          cases bw with
          | false =>
            have h6 : stErr r.length (befor s k) s[k] = 6 := by
              have := inB_no hbw
              unfold stErr; rw [if_neg (by omega)]
            have E : Hid (res = (0, 6)) := by
              have h := HF1.out (by rw [h6]; decide)
              have h2 := HRS.out
              rw [h, h6, if_neg (by decide)] at h2
              exact h2
            clear h6 hbw
            generalize s[k] = sk at *
            go_wp2_with (go_at_call 26; refine (HW9.out _).mono ?_; rintro e w' ⟨rfl, rfl⟩)
            go_ret2
            exact ⟨ret_c E.out, (HX.out _ HB.out).2.2.2.2.2⟩
          | true =>
            have hin := inB_iff.1 hbw
            have hst : stErr r.length (befor s k) s[k] = if s[k] ≤ befor s k then 9 else 0 := by unfold stErr; rw [if_pos (by omega)]
            by_cases hkz : k = 0
            · have h0 : stErr r.length (befor s k) s[k] = 0 := by
                rw [hst, if_neg]
                have : befor s k = -1 := by unfold befor; rw [dif_neg (by omega)]
                omega
              have H0 := Lib.hid h0
              have hz1 : decide ((0 : Int) < (k : Int)) = false := decide_eq_false (by omega)
              have hz2 : ¬ 0 < k := by omega
              have hz2' : decide (0 < k) = false := decide_eq_false hz2
              clear h0 hst hin hbw
              obtain ⟨sk, hsk⟩ : ∃ sk, s[k] = sk := ⟨_, rfl⟩
              rw [hsk] at c0 HW9
              clear hsk
              have HKZ := Lib.hid hkz
              clear hkz
              go_wp2_with (go_at_call 26; refine (HW9.out _).mono ?_; rintro e w' ⟨rfl, rfl⟩)
              go_quiet (fail)
              go_wp2_with fail
              go_roundw
              case rel =>
                refine ⟨k + 1, by omega, by go_num, fun j h hj => ?_, below_drN HB.out _⟩
                by_cases hjk : j = k
                · subst hjk; exact H0.out
                · exact HALL.out j h (by omega)
              case measure => simp [intOf]; omega
            · obtain ⟨km, hkm⟩ : ∃ km, km = k - 1 := ⟨_, rfl⟩
              have hkm1 : km < s.length := by omega
              obtain ⟨_, _, ep, _, c1⟩ := (HX.out wr HB.out).2.2.2.2.1.at1 (k := km) hkm1
              injection ep with ep
              injection ep with ep1 ep2
              subst ep1; subst ep2
              have hbe : befor s k = s[km] := by unfold befor; rw [dif_pos (by omega)]; simp only [hkm]
              have hwk : IntKind.i64.wrap ((k : Int) - 1) = (km : Int) := by rw [show (k : Int) - 1 = (km : Int) by omega]; exact IntWalk.i64_in _ (by omega)
              have hz1 : (0 : Int) < (k : Int) := by omega
              have hz1' : decide ((0 : Int) < (k : Int)) = true := decide_eq_true hz1
              have hz2 : 0 < k := by omega
              have hz2' : decide (0 < k) = true := decide_eq_true hz2
              have hml : (km : Int) < (s.length : Int) := by omega
              have hm0 : (0 : Int) ≤ (km : Int) := by omega
              rw [hbe] at hst
              have HBE := Lib.hid hbe
              clear hbe hkm
              obtain ⟨sk, hsk⟩ : ∃ sk, s[k] = sk := ⟨_, rfl⟩
              obtain ⟨sm, hsm⟩ : ∃ sm, s[km] = sm := ⟨_, rfl⟩
              by_cases hle : s[k] ≤ s[km]
              · rw [if_pos hle] at hst
                have E : Hid (res = (0, 9)) := by
                  have h := HF1.out (by rw [HBE.out, hst]; decide)
                  have h2 := HRS.out
                  rw [h, HBE.out, hst, if_neg (by decide)] at h2
                  exact h2
                rw [hsk] at c0 HW9 hle
                rw [hsm] at c1 hle
                have hle' : decide (sk ≤ sm) = true := decide_eq_true hle
                clear hst hsk hsm hin hbw
                go_wp2_with (go_at_call 26; refine (HW9.out _).mono ?_; rintro e w' ⟨rfl, rfl⟩)
                go_quiet (fail)
                go_wp2_with fail
                go_ret2
                exact ⟨ret_c E.out, below_drN (HX.out _ HB.out).2.2.2.2.2 _⟩
              · rw [if_neg hle] at hst
                have H0 : Hid (stErr r.length (befor s k) s[k] = 0) := by rw [HBE.out]; exact hst
                rw [hsk] at c0 HW9 hle
                rw [hsm] at c1 hle
                have hle' : decide (sk ≤ sm) = false := decide_eq_false hle
                clear hst hsk hsm hin hbw
                go_wp2_with (go_at_call 26; refine (HW9.out _).mono ?_; rintro e w' ⟨rfl, rfl⟩)
                go_quiet (fail)
                go_wp2_with fail
                go_roundw
                case rel =>
                  refine ⟨k + 1, by omega, by go_num, fun j h hj => ?_, below_drN HB.out _⟩
                  by_cases hjk : j = k
                  · subst hjk; exact H0.out
                  · exact HALL.out j h (by omega)
                case measure => simp [intOf]; omega
        · obtain rfl : k = s.length := by omega
          have h0 : se = 0 := HNO.out fun j h => HALL.out j h h
          have hrs := HRS.out
          rw [if_pos h0] at hrs
          have HA := Lib.hid (HAP.out h0)
          clear h0
          have HHK := Lib.hid (HX.out wr HB.out)
          obtain ⟨⟨g0, g1, g2⟩, _⟩ := HX.out wr HB.out
          by_cases hp : 0 < d
          · rw [if_pos hp] at hrs
            have E := Lib.hid hrs
            have hp' : decide (d ≤ 0) = false := decide_eq_false (by omega)
            clear hrs hp
            go_wp2_with (go_at_call 60; refine (HA.out _ HHK.out.2.1 HHK.out.2.2.1 HHK.out.2.2.2.1 HHK.out.2.2.2.2.1).mono ?_; rintro e w2 ⟨rfl, b2⟩)
            go_ret2
            exact ⟨ret_c E.out, below_tr HHK.out.2.2.2.2.2 b2⟩
          · rw [if_neg hp] at hrs
            have E := Lib.hid hrs
            have hp' : decide (d ≤ 0) = true := decide_eq_true (by omega)
            clear hrs hp
            go_wp2_with (go_at_call 60; refine (HA.out _ HHK.out.2.1 HHK.out.2.2.1 HHK.out.2.2.2.1 HHK.out.2.2.2.2.1).mono ?_; rintro e w2 ⟨rfl, b2⟩)
            go_ret2
            exact ⟨ret_c E.out, below_tr HHK.out.2.2.2.2.2 b2⟩
  · have E : Hid (setRes l b r s = (0, 10)) := by unfold Hid setRes; rw [set_bad h, if_neg (by decide)]
    have h1 : ((s.length : Int) != 1) = true := by rw [bne_iff_ne]; omega
    have h2 : ((s.length : Int) != 2) = true := by rw [bne_iff_ne]; omega
    obtain ⟨A3, c3, rfl, _⟩ := hy.form
    clear h hs hu ht hy hok hl hb hrd
    go_enter Try.func22, Try.ntmps22
    go_wp2_with fail
    go_ret2
    exact ⟨ret_c E.out, below_alloc1 _ _⟩
end Go.Proofs.Ytekinmafdhgmpaa
