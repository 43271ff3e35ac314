/-
  Chapter 7: the program's schedule of messages.
-/
import Derived.Test.YthffbfkcmbgghaaGreatZK7b
import Derived.Test.YthffbfkcmbgghaaGreatQNr
set_option linter.all false
namespace Go.Proofs.YthffbfkcmbgghaaGreat
open Go Go.RowKit
set_option maxHeartbeats 1000000
namespace Bs
variable {l : List Str} {s : List Int} (h : OkS l s)
def snd (y : Sy) (nm : Nat → Int) (c : Nat → Int) (i : Nat) : Int × Int × Int × Int × Int × Int := (nm i, y.P i, y.D i, y.L i, y.S i, c i)
def snds (y : Sy) (nm : Nat → Int) (c : Nat → Int) : List (Int × Int × Int × Int × Int × Int) := (List.range y.n).map (snd y nm c)
theorem snds_len (y : Sy) (nm c : Nat → Int) : (snds y nm c).length = y.n := by simp [snds]
theorem snds_at (y : Sy) (nm c : Nat → Int) {i : Nat} (hi : i < y.n) : (snds y nm c)[i]? = some (snd y nm c i) := by
 simp [snds, hi]
theorem snds_up (y : Sy) (nm c : Nat → Int) {i : Nat} (_hi : i < y.n) : (snds y nm c).set i (nm i, y.P i, y.D i, y.L i, y.S i, c i + 1) = snds y nm (up c i) := by
 refine map_put List.nodup_range (a := i) (by simp [_hi]) ?_ ?_
 ·simp [snd, up]
 ·intro x _ hne
  simp [snd, up, hne]
theorem sy_bounds {i : Nat} (hi : i < l.length) : 1 ≤ (sy h).P i ∧ (sy h).P i ≤ 60 ∧ 1 ≤ (sy h).D i ∧ (sy h).D i ≤ 60 ∧ 1 ≤ (sy h).L i ∧ (sy h).L i ≤ 20 ∧ 0 ≤ (sy h).S i ∧ (sy h).S i ≤ 400 := by
 have hx := List.getElem?_eq_getElem hi
 have hu := List.getElem?_eq_getElem (show i < s.length by rw [h.len]; exact hi)
 have ox := h.ok i _ hx
 have ou := h.st i _ hu
 have eX : gs l i = _ := gs_at hx
 have eS : (sy h).S i = s[i]'(by rw [h.len]; exact hi) := show s[i]?.getD 0 = s[i]'(by rw [h.len]; exact hi) by rw [hu]; rfl
 show 1 ≤ (gs l i).2.1 ∧ (gs l i).2.1 ≤ 60 ∧ 1 ≤ (gs l i).2.2.1 ∧ (gs l i).2.2.1 ≤ 60 ∧ 1 ≤ (gs l i).2.2.2 ∧ (gs l i).2.2.2 ≤ 20 ∧ _
 rw [eX, eS]
 exact ⟨ox.1, ox.2.1, ox.2.2.1, ox.2.2.2.1, ox.2.2.2.2.1, ox.2.2.2.2.2, ou⟩
theorem sent_bounds {c : Nat → Int} {i : Nat} (hi : i < l.length) (hc : 0 ≤ c i ∧ c i ≤ 400) : 0 ≤ c i / (sy h).L i ∧ c i / (sy h).L i * (sy h).P i ≤ 24000 ∧ 0 ≤ c i / (sy h).L i * (sy h).P i := by
 have b := sy_bounds h hi
 have h0 : 0 ≤ c i / (sy h).L i := Int.ediv_nonneg hc.1 (by omega)
 have h1 : c i / (sy h).L i ≤ 400 := Int.le_trans (Int.ediv_le_self _ hc.1) hc.2
 have h2 := Int.mul_le_mul_of_nonneg_right h1 (show 0 ≤ (sy h).P i by omega)
 have h3 := Int.mul_nonneg h0 (show 0 ≤ (sy h).P i by omega)
 exact ⟨h0, by omega, h3⟩
theorem p_sent (nm c : Nat → Int) {i : Nat} (hi : i < l.length) (hc : 0 ≤ c i ∧ c i ≤ 400) : bus_sender_sent (snd (sy h) nm c i).1 (snd (sy h) nm c i).2.1 (snd (sy h) nm c i).2.2.1 (snd (sy h) nm c i).2.2.2.1 (snd (sy h) nm c i).2.2.2.2.1 (snd (sy h) nm c i).2.2.2.2.2 = some (sent (sy h) c i) := by
 have b := sy_bounds h hi
 have q := sent_bounds h hi hc
 have q1 : c i / (sy h).L i ≤ 400 := Int.le_trans (Int.ediv_le_self _ hc.1) hc.2
 show bus_sender_sent (nm i) ((sy h).P i) ((sy h).D i) ((sy h).L i) ((sy h).S i) (c i) = _
 unfold bus_sender_sent
 rw [if_neg (by omega), Int.tdiv_eq_ediv_of_nonneg hc.1, wrapB (x := c i / (sy h).L i) (by omega) (by omega), wrapB (x := c i / (sy h).L i * (sy h).P i) (by omega) (by omega), wrapB (by omega) (by omega)]
 rfl
theorem p_first {fu : Nat} (nm c : Nat → Int) (t : Nat) (hc : ∀ i, i < l.length → 0 ≤ c i ∧ c i ≤ 400) : ∀ (m i n : Nat), i + m = l.length → m < n → (∀ j, j < i → ¬sent (sy h) c j ≤ (t : Int)) → (∃ j : Nat, bus_traffic_firstAt_L1 fu (snds (sy h) nm c) (t : Int) (l.length : Int) n (i : Int) = some (.inl (j : Int)) ∧ j < l.length ∧ sent (sy h) c j ≤ t ∧ ∀ k, k < j → ¬sent (sy h) c k ≤ (t : Int)) ∨ (bus_traffic_firstAt_L1 fu (snds (sy h) nm c) (t : Int) (l.length : Int) n (i : Int) = some (.inr ()) ∧ ∀ k, k < l.length → ¬sent (sy h) c k ≤ (t : Int))
 | _, _, 0, _, hn, _ => absurd hn (by omega)
 | 0, i, n + 1, hi, _, hb => by
  refine .inr ⟨?_, fun k hk => hb k (by omega)⟩
  rw [bus_traffic_firstAt_L1, if_neg (by omega)]
 | m + 1, i, n + 1, hi, hn, hb => by
  have hil : i < l.length := by omega
  have ha := snds_at (sy h) nm c (show i < (sy h).n from hil)
  have hl := snds_len (sy h) nm c
  have hl' : (sy h).n = l.length := rfl
  have few := h.few
  have W : IntKind.wrap .i64 ((i : Int) + 1) = ((i + 1 : Nat) : Int) := wrapS (by omega)
  rw [bus_traffic_firstAt_L1, if_pos (by omega), if_pos (idx ha).2.1, if_pos (idx ha).1, (idx ha).2.2, Option.bind_some, p_sent h nm c hil (hc i hil), Option.bind_some, W]
  by_cases g : sent (sy h) c i ≤ (t : Int)
  ·rw [if_pos g]
   exact .inl ⟨i, rfl, hil, g, hb⟩
  ·rw [if_neg g]
   refine p_first nm c t hc m (i + 1) n (by omega) (by omega) fun j hj => ?_
   by_cases q : j = i
   ·rw [q]; exact g
   ·exact hb j (by omega)
theorem p_firstAt {fu : Nat} (hf : 5000 ≤ fu) (nm c : Nat → Int) (t : Nat) (hc : ∀ i, i < l.length → 0 ≤ c i ∧ c i ≤ 400) : (∃ j : Nat, bus_traffic_firstAt fu (snds (sy h) nm c) (t : Int) = some (j : Int) ∧ Chosen (sy h) c false (t + 1) j) ∨ (bus_traffic_firstAt fu (snds (sy h) nm c) (t : Int) = some (-1) ∧ ∀ k, k < (sy h).n → ¬sent (sy h) c k < ((t + 1 : Nat) : Int)) := by
 have few := h.few
 have hl := snds_len (sy h) nm c
 have hl' : (sy h).n = l.length := rfl
 unfold bus_traffic_firstAt
 rw [show ((snds (sy h) nm c).length : Int) = (l.length : Int) by rw [hl]; rfl]
 rcases p_first h (fu := fu) nm c t hc l.length 0 fu (by omega) (by omega) (fun j hj => absurd hj (by omega)) with ⟨j, E, h1, h2, h3⟩ | ⟨E, h1⟩
 ·have E' : bus_traffic_firstAt_L1 fu (snds (sy h) nm c) (t : Int) (l.length : Int) fu (0 : Int) = some (.inl (j : Int)) := E
  refine .inl ⟨j, by rw [E']; rfl, h1, by omega, fun k hk hs => ?_⟩
  by_cases q : k = j
  ·exact .inl q
  ·refine .inr ?_
   unfold bf
   have : ¬k < j := fun g => h3 k g (by omega)
   simp only [Bool.false_eq_true, false_and, if_false]
   rw [if_pos (by omega)]
   omega
 ·have E' : bus_traffic_firstAt_L1 fu (snds (sy h) nm c) (t : Int) (l.length : Int) fu (0 : Int) = some (.inr ()) := E
  exact .inr ⟨by rw [E']; rfl, fun k hk g => h1 k hk (by omega)⟩
theorem p_frames {fu : Nat} (hf : 5000 ≤ fu) (nm : Nat → Int) {T : Nat} (hT : T ≤ 400) : ∀ (m t n : Nat) (o : List Int) (c : Nat → Int) (R : Nat × Int → Int), t + m = T → m < n → Run (sy h) false t o c R → ∃ o' c' R', bus_traffic_frames_1_L1 fu (T : Int) n o (snds (sy h) nm c) (t : Int) = some (o', snds (sy h) nm c') ∧ Run (sy h) false T o' c' R'
 | _, _, 0, _, _, _, _, hn, _ => absurd hn (by omega)
 | 0, t, n + 1, o, c, R, hi, _, hr => by
  have : t = T := by omega
  subst this
  rw [bus_traffic_frames_1_L1, if_neg (by omega)]
  exact ⟨o, c, R, rfl, hr⟩
 | m + 1, t, n + 1, o, c, R, hi, hn, hr => by
  have inv := run_inv (sy h) hr
  have hc : ∀ i, i < l.length → 0 ≤ c i ∧ c i ≤ 400 := fun i hi => ⟨(inv.2.1 i hi).1, by have := (inv.2.1 i hi).2; omega⟩
  have W : IntKind.wrap .i64 ((t : Int) + 1) = ((t + 1 : Nat) : Int) := wrapS (by omega)
  have ol : (o.length : Int) < 65536 := by rw [inv.1]; omega
  have hl := snds_len (sy h) nm c
  rw [bus_traffic_frames_1_L1, if_pos (by omega), W]
  rcases p_firstAt h hf nm c t hc with ⟨j, E, ch⟩ | ⟨E, hn2⟩
  ·have hj : j < l.length := ch.1
   have ha := snds_at (sy h) nm c ch.1
   have b := sy_bounds h hj
   have hcj := hc j hj
   have jl := (List.getElem?_eq_some_iff.1 ha).1
   rw [E, Option.bind_some, if_neg (by omega), if_pos (by omega), if_pos (idx ha).1, (idx ha).2.2, Option.bind_some, p_sent h nm c hj hcj, Option.bind_some, Option.bind_some, show 0 + ((j : Int)).toNat = j by omega, List.getElem?_set_self jl, Option.bind_some]
   have E2 : ((snds (sy h) nm c).set j ((snd (sy h) nm c j).1, (snd (sy h) nm c j).2.1, (snd (sy h) nm c j).2.2.1, (snd (sy h) nm c j).2.2.2.1, (snd (sy h) nm c j).2.2.2.2.1, IntKind.wrap .i64 ((snd (sy h) nm c j).2.2.2.2.2 + 1))) = snds (sy h) nm (up c j) := by
    rw [show (snd (sy h) nm c j).2.2.2.2.2 = c j from rfl, wrapB (x := c j + 1) (by omega) (by omega)]
    exact snds_up (sy h) nm c ch.1
   rw [E2]
   have rr := Run.one hr ch
   have go := p_frames hf nm hT m (t + 1) n _ _ _ (by omega) (by omega) rr
   rw [if_neg (by show ¬(sy h).L j = 0; omega), if_pos ol]
   split
   ·exact go
   ·exact go
  ·rw [E, Option.bind_some, if_pos rfl, if_pos ol]
   exact p_frames hf nm hT m (t + 1) n _ _ _ (by omega) (by omega) (Run.idle hr hn2)
end Bs
end Go.Proofs.YthffbfkcmbgghaaGreat

namespace Go.Proofs.YthffbfkcmbgghaaGreat
open Go Go.RowKit
set_option maxHeartbeats 1000000
namespace Bs
variable {l : List Str} {s : List Int} (h : OkS l s)
def nmL (l : List Str) (i : Nat) : Int := (gs l i).1
theorem p_fill (fu : Nat) : ∀ (m i n : Nat), i + m = l.length → m < n → bus_newTraffic_L1 fu l s (l.length : Int) n ((snds (sy h) (nmL l) fun _ => 0).take i ++ List.replicate m ((0 : Int), (0 : Int), (0 : Int), (0 : Int), (0 : Int), (0 : Int))) (i : Int) = some (snds (sy h) (nmL l) fun _ => 0)
 | _, _, 0, _, hn => absurd hn (by omega)
 | 0, i, n + 1, hi, _ => by
  have hl := snds_len (sy h) (nmL l) fun _ => 0
  have hl' : (sy h).n = l.length := rfl
  rw [bus_newTraffic_L1, if_neg (by omega), List.take_of_length_le (by omega)]
  simp
 | m + 1, i, n + 1, hi, hn => by
  have hl := snds_len (sy h) (nmL l) fun _ => 0
  have hl' : (sy h).n = l.length := rfl
  have few := h.few
  have hx := List.getElem?_eq_getElem (show i < l.length by omega)
  have hu := List.getElem?_eq_getElem (show i < s.length by rw [h.len]; omega)
  have ha := snds_at (sy h) (nmL l) (fun _ => 0) (show i < (sy h).n by omega)
  have ht : ((snds (sy h) (nmL l) fun _ => 0).take i).length = i := by rw [List.length_take]; omega
  have eX : snd (sy h) (nmL l) (fun _ => 0) i = ((l[i]'(by omega)).1, (l[i]'(by omega)).2.1, (l[i]'(by omega)).2.2.1, (l[i]'(by omega)).2.2.2, s[i]'(by rw [h.len]; omega), 0) := by
   show ((gs l i).1, (gs l i).2.1, (gs l i).2.2.1, (gs l i).2.2.2, s[i]?.getD 0, (0 : Int)) = _
   rw [gs_at hx, hu]
   rfl
  generalize (l[i]'(by omega)) = x at hx eX
  generalize (s[i]'(by rw [h.len]; omega)) = u at hu eX
  have W : IntKind.wrap .i64 ((i : Int) + 1) = ((i + 1 : Nat) : Int) := wrapS (by omega)
  have e2 : ((snds (sy h) (nmL l) fun _ => 0).take i ++ List.replicate (m + 1) ((0 : Int), (0 : Int), (0 : Int), (0 : Int), (0 : Int), (0 : Int)))[i]? = some (0, 0, 0, 0, 0, 0) := by
   rw [List.getElem?_append_right (by omega), ht, Nat.sub_self]
   rfl
  have e3 : ((snds (sy h) (nmL l) fun _ => 0).take i ++ List.replicate (m + 1) ((0 : Int), (0 : Int), (0 : Int), (0 : Int), (0 : Int), (0 : Int))).set (0 + ((i : Int)).toNat) (x.1, x.2.1, x.2.2.1, x.2.2.2, u, (0 : Int)) = (snds (sy h) (nmL l) fun _ => 0).take (i + 1) ++ List.replicate m (0, 0, 0, 0, 0, 0) := by
   rw [show 0 + ((i : Int)).toNat = i by omega, List.set_append_right _ _ (by omega), ht, Nat.sub_self, List.replicate_succ, List.set_cons_zero, List.take_add_one, ha, eX]
   simp
  rw [bus_newTraffic_L1, if_pos (idx hx).1, if_pos (idx hx).2.1, if_pos (idx hx).1, (idx hx).2.2, Option.bind_some, if_pos (idx hu).1, (idx hu).2.2, Option.bind_some, if_pos (idx e2).1, (idx e2).2.2, Option.bind_some, e3, W]
  exact p_fill fu m (i + 1) n (by omega) (by omega)
end Bs
end Go.Proofs.YthffbfkcmbgghaaGreat

namespace Go.Proofs.YthffbfkcmbgghaaGreat
open Go Go.RowKit
set_option maxHeartbeats 2000000
namespace Bs
variable {l : List Str} {s : List Int} (h : OkS l s)
def Wl (y : Sy) (t : Nat) (R : Nat × Int → Int) (v : List Int) : Prop := v.length = y.n ∧ ∀ i w, v[i]? = some w → IsW y t R i w
theorem wl_put {y : Sy} {e : Bool} {t : Nat} {o : List Int} {c : Nat → Int} {R : Nat × Int → Int} (hr : Run y e t o c R) {i : Nat} (ch : Chosen y c e (t + 1) i) {v : List Int} (hv : Wl y t R v) {w : Int} (hw : v[i]? = some w) {x : Int} (hx : x = max w (if (c i + 1) % y.L i = 0 then (t : Int) - sent y c i + 1 else 0)) : Wl y (t + 1) (putR R (i, sent y c i) (done y c R i t)) (v.set i x) := by
 refine ⟨by rw [List.length_set]; exact hv.1, fun j u hu => ?_⟩
 rw [List.getElem?_set] at hu
 have hi := (List.getElem?_eq_some_iff.1 hw).1
 by_cases g : i = j
 ·subst g
  rw [if_pos rfl, if_pos hi] at hu
  injection hu with hu
  have := isW_put y hr ch (hv.2 i w hw)
  rw [if_pos rfl, ← hx, hu] at this
  exact this
 ·rw [if_neg g] at hu
  have := isW_put y hr ch (hv.2 j u hu)
  rw [if_neg (fun q => g q.symm)] at this
  exact this
theorem p_frames3 {fu : Nat} (hf : 5000 ≤ fu) (nm : Nat → Int) {T : Nat} (hT : T ≤ 400) : ∀ (m t n : Nat) (o v : List Int) (c : Nat → Int) (R : Nat × Int → Int), t + m = T → m < n → Run (sy h) false t o c R → Wl (sy h) t R v → ∃ o' v' c' R', bus_traffic_frames_1_3_L1 fu (T : Int) n v (snds (sy h) nm c) (t : Int) = some (v', snds (sy h) nm c') ∧ Run (sy h) false T o' c' R' ∧ Wl (sy h) T R' v'
 | _, _, 0, _, _, _, _, _, hn, _, _ => absurd hn (by omega)
 | 0, t, n + 1, o, v, c, R, hi, _, hr, hv => by
  have : t = T := by omega
  subst this
  rw [bus_traffic_frames_1_3_L1, if_neg (by omega)]
  exact ⟨o, v, c, R, rfl, hr, hv⟩
 | m + 1, t, n + 1, o, v, c, R, hi, hn, hr, hv => by
  have inv := run_inv (sy h) hr
  have hc : ∀ i, i < l.length → 0 ≤ c i ∧ c i ≤ 400 := fun i hi => ⟨(inv.2.1 i hi).1, by have := (inv.2.1 i hi).2; omega⟩
  have W : IntKind.wrap .i64 ((t : Int) + 1) = ((t + 1 : Nat) : Int) := wrapS (by omega)
  have hl := snds_len (sy h) nm c
  rw [bus_traffic_frames_1_3_L1, if_pos (by omega), W]
  rcases p_firstAt h hf nm c t hc with ⟨j, E, ch⟩ | ⟨E, hn2⟩
  ·have hj : j < l.length := ch.1
   have ha := snds_at (sy h) nm c ch.1
   have b := sy_bounds h hj
   have hcj := hc j hj
   have jl := (List.getElem?_eq_some_iff.1 ha).1
   have lt := ch.2.1
   have sb := sent_bounds h hj hcj
   have sS : (sy h).S j ≤ sent (sy h) c j := by unfold sent; omega
   have hvj := List.getElem?_eq_getElem (show j < v.length by rw [hv.1]; exact ch.1)
   generalize (v[j]'(by rw [hv.1]; exact ch.1)) = w at hvj
   have wp := (hv.2 j w hvj).1
   have jv := (idx hvj).1
   rw [E, Option.bind_some, if_neg (by omega), if_pos (by omega), if_pos (idx ha).1, (idx ha).2.2, Option.bind_some, p_sent h nm c hj hcj, Option.bind_some, Option.bind_some, show 0 + ((j : Int)).toNat = j by omega, List.getElem?_set_self jl, Option.bind_some]
   have E2 : ((snds (sy h) nm c).set j ((snd (sy h) nm c j).1, (snd (sy h) nm c j).2.1, (snd (sy h) nm c j).2.2.1, (snd (sy h) nm c j).2.2.2.1, (snd (sy h) nm c j).2.2.2.2.1, IntKind.wrap .i64 ((snd (sy h) nm c j).2.2.2.2.2 + 1))) = snds (sy h) nm (up c j) := by
    rw [show (snd (sy h) nm c j).2.2.2.2.2 = c j from rfl, wrapB (x := c j + 1) (by omega) (by omega)]
    exact snds_up (sy h) nm c ch.1
   have tm : Int.tmod (IntKind.wrap .i64 (c j + 1)) ((sy h).L j) = (c j + 1) % (sy h).L j := by
    rw [wrapB (by omega) (by omega), Int.tmod_eq_emod_of_nonneg (by omega)]
   have wr : IntKind.wrap .i64 ((IntKind.wrap .i64 ((t : Int) - sent (sy h) c j)) + 1) = (t : Int) - sent (sy h) c j + 1 := by
    rw [wrapB (x := (t : Int) - sent (sy h) c j) (by omega) (by omega), wrapB (by omega) (by omega)]
   rw [E2, wr]
   have rr := Run.one hr ch
   have go : ∀ x, x = max w (if (c j + 1) % (sy h).L j = 0 then (t : Int) - sent (sy h) c j + 1 else 0) → ∃ o' v' c' R', bus_traffic_frames_1_3_L1 fu (T : Int) n (v.set j x) (snds (sy h) nm (up c j)) ((t + 1 : Nat) : Int) = some (v', snds (sy h) nm c') ∧ Run (sy h) false T o' c' R' ∧ Wl (sy h) T R' v' := fun x hx => p_frames3 hf nm hT m (t + 1) n _ _ _ _ (by omega) (by omega) rr (wl_put hr ch hv hvj hx)
   rw [if_neg (by show ¬(sy h).L j = 0; omega), if_pos jv, hvj, Option.bind_some, Option.bind_some, if_pos jv, Option.bind_some, Option.bind_some]
   show ∃ o' v' c' R', (if Int.tmod (IntKind.wrap .i64 (c j + 1)) ((sy h).L j) = 0 then _ else _) = _ ∧ _
   rw [tm]
   by_cases g : (c j + 1) % (sy h).L j = 0
   ·rw [if_pos g]
    by_cases g2 : w < (t : Int) - sent (sy h) c j + 1
    ·rw [if_pos g2]
     exact go _ (by rw [if_pos g]; omega)
    ·rw [if_neg g2]
     exact go _ (by rw [if_pos g]; omega)
   ·rw [if_neg g, if_neg (by omega)]
    exact go _ (by rw [if_neg g]; omega)
  ·rw [E, Option.bind_some, if_pos rfl]
   exact p_frames3 hf nm hT m (t + 1) n _ _ _ _ (by omega) (by omega) (Run.idle hr hn2) ⟨hv.1, fun i w hw => isW_next (sy h) hr (hv.2 i w hw)⟩
end Bs
end Go.Proofs.YthffbfkcmbgghaaGreat
