/-
  Numbers and lists of them as strings: how the program and the document write them.
-/
import Derived.Test.YtlfmdkmjfokgbaaGreatDoorQGa
set_option linter.all false
namespace Go.Proofs.YtlfmdkmjfokgbaaGreatDoor
open Go Go.RowKit Go.Lib Go.Proofs.YtlfmdkmjfokgbaaGreatDoor.Cm
open St (by' co splitL numL digV)
theorem z_size {x : Int} (h : -9223372036854775807 ≤ x ∧ x ≤ 9223372036854775807) : b_Size x = some (x.natAbs : Int) := by
 unfold b_Size
 rw [wrapB (by omega) (by omega)]
 by_cases h1 : x < 0 - x
 ·rw [if_pos h1]; congr 1; omega
 ·rw [if_neg h1]; congr 1; omega
def bK : Int := -16221621217447991123286170206533531672632299716850112127131386537204013554864721642576086973800878646644642981707194008570216306818799668113542941173663648395476071077739651856004314947694625912184081865252391747708886730032845636774230134258526612319485576774894870871931242342359932602230622168876670908392810809452857821798384424983407524275699471860131233968698662634644137322828262828507610385879128166111133198824586478942304211955948474763503029423254561762147447424623126739489800310985254516453495929112823441634001289163251175687074750229425114031733570194532455173868833102382565715355072145850644824162561
theorem bK_eq : bK = codeS allBytes := by kernel_rfl
theorem chr_at : ∀ n : Nat, n < 256 → allBytes.extract n (n + 1) = ⟨#[UInt8.ofNat n]⟩ := by decide +kernel
theorem chr_eq {k : Nat} (h : k < 10) : scut bK (IntKind.wrap .u8 (IntKind.wrap .i64 ((48 : Int) + (k : Int)))) (IntKind.wrap .i64 (IntKind.wrap .u8 (IntKind.wrap .i64 ((48 : Int) + (k : Int))) + 1)) = co [UInt8.ofNat (48 + k)] := by
 have e1 : IntKind.wrap .u8 (IntKind.wrap .i64 ((48 : Int) + (k : Int))) = ((48 + k : Nat) : Int) := by
  rw [wrapB (by omega) (by omega)]
  unfold IntKind.wrap; simp [IntKind.bits, IntKind.signed]; omega
 rw [e1, wrapS (by omega), bK_eq]
 unfold scut co
 rw [strOf_code, Int.toNat_natCast, Int.toNat_natCast, chr_at _ (by omega)]
def digs (u : Nat) : List UInt8 := if u = 0 then [] else decDigits u
theorem digs_step {u : Nat} (h : u ≠ 0) : digs u = digs (u / 10) ++ [UInt8.ofNat (48 + u % 10)] := by
 unfold digs
 rw [if_neg h]
 by_cases h1 : u < 10
 ·rw [if_pos (by omega), decDigits, dif_pos h1, Nat.mod_eq_of_lt h1]; rfl
 ·rw [if_neg (by omega)]
  conv => lhs; rw [decDigits, dif_neg h1]
theorem s_cat (a b : List UInt8) : scat (co a) (co b) = co (a ++ b) := St.by_inj (by rw [St.by_cat, St.by_co, St.by_co, St.by_co])
theorem s_len (l : List UInt8) : sln (co l) = (l.length : Int) := by rw [St.by_len, St.by_co]
theorem z_decL1 (fu : Nat) : ∀ (n : Nat) (v : Int) (s : List UInt8), -9223372036854775808 ≤ v ∧ v ≤ 9223372036854775807 → v.natAbs < 10 ^ n → s.length + (digs v.natAbs).length ≤ 1000000 → b_Decimal_L1 fu (n + 1) v (co s) = some (co (digs v.natAbs ++ s))
 | 0, v, s, hv, h, hs => by
  have : v = 0 := by omega
  subst this
  rw [b_Decimal_L1, if_pos rfl]; rfl
 | n + 1, v, s, hv, h, hs => by
  rw [b_Decimal_L1]
  by_cases h0 : v = 0
  ·subst h0; rw [if_pos rfl]; rfl
  ·have hm : (Int.tmod v 10).natAbs = v.natAbs % 10 := by rw [Int.natAbs_tmod]; rfl
   have hq : (Int.tdiv v 10).natAbs = v.natAbs / 10 := by rw [Int.natAbs_tdiv]; rfl
   have hk : v.natAbs % 10 < 10 := Nat.mod_lt _ (by omega)
   have hc := chr_eq hk
   have hst := digs_step (u := v.natAbs) (by omega)
   rw [hst, List.length_append, List.length_singleton] at hs
   unfold bK at hc
   rw [if_neg h0, z_size (by omega), Option.bind_some, hm, hc, s_len, s_len, if_pos (by simp), if_pos (by omega), s_cat, wrapB (by omega) (by omega)]
   have hlt : v.natAbs / 10 < 10 ^ n := by rw [Nat.pow_succ] at h; omega
   have := z_decL1 fu n (Int.tdiv v 10) (UInt8.ofNat (48 + v.natAbs % 10) :: s) (by omega) (by rw [hq]; exact hlt) (by rw [hq, List.length_cons]; omega)
   rw [show ([UInt8.ofNat (48 + v.natAbs % 10)] ++ s) = UInt8.ofNat (48 + v.natAbs % 10) :: s from rfl, this, hq]
   congr 2
   rw [hst, List.append_assoc]; rfl
theorem z_decL2 (fu : Nat) : ∀ (n : Nat) (v : Int) (s : List UInt8), -9223372036854775808 ≤ v ∧ v ≤ 9223372036854775807 → v.natAbs < 10 ^ n → s.length + (digs v.natAbs).length ≤ 1000000 → b_Decimal_L2 fu (n + 1) v (co s) = some (co (digs v.natAbs ++ s))
 | 0, v, s, hv, h, hs => by
  have : v = 0 := by omega
  subst this
  rw [b_Decimal_L2, if_pos rfl]; rfl
 | n + 1, v, s, hv, h, hs => by
  rw [b_Decimal_L2]
  by_cases h0 : v = 0
  ·subst h0; rw [if_pos rfl]; rfl
  ·have hm : (Int.tmod v 10).natAbs = v.natAbs % 10 := by rw [Int.natAbs_tmod]; rfl
   have hq : (Int.tdiv v 10).natAbs = v.natAbs / 10 := by rw [Int.natAbs_tdiv]; rfl
   have hk : v.natAbs % 10 < 10 := Nat.mod_lt _ (by omega)
   have hc := chr_eq hk
   have hst := digs_step (u := v.natAbs) (by omega)
   rw [hst, List.length_append, List.length_singleton] at hs
   unfold bK at hc
   rw [if_neg h0, z_size (by omega), Option.bind_some, hm, hc, s_len, s_len, if_pos (by simp), if_pos (by omega), s_cat, wrapB (by omega) (by omega)]
   have hlt : v.natAbs / 10 < 10 ^ n := by rw [Nat.pow_succ] at h; omega
   have := z_decL2 fu n (Int.tdiv v 10) (UInt8.ofNat (48 + v.natAbs % 10) :: s) (by omega) (by rw [hq]; exact hlt) (by rw [hq, List.length_cons]; omega)
   rw [show ([UInt8.ofNat (48 + v.natAbs % 10)] ++ s) = UInt8.ofNat (48 + v.natAbs % 10) :: s from rfl, this, hq]
   congr 2
   rw [hst, List.append_assoc]; rfl
theorem z_decimal {fu : Nat} (hf : 30 ≤ fu) {a : Int} (h : -9223372036854775808 ≤ a ∧ a ≤ 9223372036854775807) : b_Decimal fu a = some (co (itoa a)) := by
 obtain ⟨k, rfl⟩ : ∃ k, fu = k + 1 := ⟨fu - 1, by omega⟩
 have hp : a.natAbs < 10 ^ k := by
  have : (10 : Nat) ^ 20 ≤ 10 ^ k := Nat.pow_le_pow_right (by omega) (by omega)
  omega
 have e0 : (0 : Int) = co [] := rfl
 have eM : (23 : Int) = co [45] := rfl
 unfold b_Decimal
 by_cases h0 : a = 0
 ·rw [if_pos h0]; subst h0
  show some (-25 : Int) = some (co (itoa 0))
  rw [show itoa 0 = [48] by decide +kernel]; rfl
 ·rw [if_neg h0]
  have hl := itoa_length_le a h.1 h.2
  have hdg : digs a.natAbs = decDigits a.natAbs := by unfold digs; rw [if_neg (by omega)]
  by_cases h1 : a < 0
  ·have hi : itoa a = 45 :: decDigits a.natAbs := by unfold itoa; rw [if_pos h1]
   rw [hi, List.length_cons] at hl
   have := z_decL1 (k + 1) k a [] (by omega) hp (by rw [hdg]; simp; omega)
   rw [if_pos h1, e0, this, Option.bind_some, List.append_nil, hdg, eM, s_len, s_len, if_pos (by simp), if_pos (by omega), s_cat, hi]; rfl
  ·have hi : itoa a = decDigits a.natAbs := by unfold itoa; rw [if_neg h1, show a.toNat = a.natAbs by omega]
   rw [hi] at hl
   have := z_decL2 (k + 1) k a [] (by omega) hp (by rw [hdg]; simp; omega)
   rw [if_neg h1, e0, this, Option.bind_some, List.append_nil, hdg, s_len, s_len, if_pos (by simp), if_pos (by omega), s_cat, hi]; rfl
/-! ### Lists -/
def rngL (l : List Int) : Prop := ∀ x ∈ l, -9223372036854775808 ≤ x ∧ x ≤ 9223372036854775807
def wr (l : List Int) : List UInt8 := join (l.map itoa) [32]
theorem tail_len {c : UInt8} : ∀ (r : List (List UInt8)) (m : Nat), (∀ y ∈ r, y.length ≤ m) → (joinTail [c] r).length ≤ (m + 1) * r.length
 | [], m, _ => by simp [joinTail]
 | y :: r, m, h => by
  have h1 := h y (by simp)
  have h2 := tail_len (c := c) r m fun z hz => h z (by simp [hz])
  have e : joinTail [c] (y :: r) = c :: (y ++ joinTail [c] r) := by simp [joinTail]
  rw [e, List.length_cons, List.length_append, List.length_cons, Nat.mul_add]
  omega
theorem join_len {c : UInt8} (l : List (List UInt8)) (m : Nat) (h : ∀ y ∈ l, y.length ≤ m) : (join l [c]).length ≤ (m + 1) * l.length := by
 cases l with
 | nil => simp [join_nil]
 | cons x r =>
  have h1 := h x (by simp)
  have h2 := tail_len (c := c) r m fun z hz => h z (by simp [hz])
  rw [join_cons, List.length_append, List.length_cons, Nat.mul_add]
  omega
theorem itoas_len {l : List Int} (h : rngL l) : ∀ y ∈ l.map itoa, y.length ≤ 21 := by
 intro y hy
 obtain ⟨x, hx, rfl⟩ := List.mem_map.1 hy
 exact itoa_length_le x (h x hx).1 (h x hx).2
theorem wr_len {l : List Int} (h : rngL l) : (wr l).length ≤ 22 * l.length := by
 have := join_len (c := 32) (l.map itoa) 21 (itoas_len h)
 rw [List.length_map] at this
 exact this
theorem p_itoa {x : Int} (h : -9223372036854775808 ≤ x ∧ x ≤ 9223372036854775807) : strconv_Itoa x = some (co (itoa x)) := by
 unfold strconv_Itoa; rw [if_pos h]; rfl
theorem p_joinedL (fu : Nat) {l : List Int} (hr : rngL l) (hl : l.length < 1000) (p1 : Int) : ∀ (n : Nat) (v : List Int) (i : Nat), i ≤ l.length → v.length = l.length → l.length - i < n → u_Joined_int_Itoa_L1 fu l p1 (l.length : Int) n v (i : Int) = some (v.take i ++ ((l.drop i).map itoa).map co)
 | 0, v, i, _, _, h => by omega
 | n + 1, v, i, hi, hv, h => by
  rcases Nat.lt_or_ge i l.length with h1 | h1
  ·have he : l[i]? = some l[i] := List.getElem?_eq_getElem h1
   obtain ⟨g1, g2, g3⟩ := idx he
   obtain ⟨k1, k2, k3⟩ := idx (List.getElem?_eq_getElem (l := v) (i := i) (by omega))
   rw [u_Joined_int_Itoa_L1, if_pos g1, if_pos g2, if_pos g1, g3, Option.bind_some, p_itoa (hr _ (List.getElem_mem h1)), Option.bind_some, if_pos k1, k3, Option.bind_some, wrapS (by omega), Int.toNat_natCast, Nat.zero_add,
    p_joinedL fu hr hl p1 n _ (i + 1) (by omega) (by rw [List.length_set]; exact hv) (by omega), List.drop_eq_getElem_cons h1]
   congr 1
   rw [List.take_succ, List.take_set_of_le (Nat.le_refl i), List.getElem?_set_self (by omega), List.append_assoc]; rfl
  ·have : i = l.length := by omega
   subst this
   rw [u_Joined_int_Itoa_L1, if_neg (by omega), List.drop_of_length_le (Nat.le_refl _), List.take_of_length_le (by omega)]; simp
theorem p_written {fu : Nat} (hf : 2000 ≤ fu) {l : List Int} (hr : rngL l) (hl : l.length < 1000) : u_Written fu l = some (co (wr l)) := by
 have hj := wr_len hr
 unfold u_Written u_Joined_int_Itoa
 rw [if_pos (by omega), if_pos (by omega)]
 have := p_joinedL fu hr hl (-17) fu (List.replicate l.length 0) 0 (Nat.zero_le _) (by simp) (by omega)
 rw [show ((0 : Nat) : Int) = 0 from rfl, List.drop_zero] at this
 rw [Int.toNat_natCast, this, Option.bind_some, List.take_zero, List.nil_append, s_join b_blank (by rw [List.length_map]; omega) (by unfold wr at hj; omega)]
 rfl
end Go.Proofs.YtlfmdkmjfokgbaaGreatDoor

namespace Go.Proofs.YtlfmdkmjfokgbaaGreatDoor
open Go Go.RowKit Go.Lib Go.Proofs.YtlfmdkmjfokgbaaGreatDoor.Cm
open St (by' co splitL numL digV)
theorem splitL_mem {c : UInt8} {l : List UInt8} : ∀ w ∈ splitL c l, w.length ≤ l.length := by
 have : ∀ (l acc : List UInt8), ∀ w ∈ St.cutGo c acc l, w.length ≤ acc.length + l.length := fun l => by
  induction l with
  | nil => intro acc w hw; simp [St.cutGo] at hw; subst hw; simp
  | cons b l ih =>
   intro acc w hw
   rw [St.cutGo] at hw
   split at hw
   ·rcases List.mem_cons.1 hw with rfl | hw
    ·simp
    ·have := ih [] w hw; simp at this ⊢; omega
   ·have := ih (acc ++ [b]) w hw; simp at this ⊢; omega
 intro w hw
 have := this l [] w hw
 simpa using this
/-! ### Writing -/
def linkW (k : Lk) : List UInt8 := wr [k.1, k.2.1, k.2.2]
def rngK (ks : List Lk) : Prop := ∀ k ∈ ks, rngL [k.1, k.2.1, k.2.2]
theorem linkW_len {ks : List Lk} (h : rngK ks) : ∀ y ∈ ks.map linkW, y.length ≤ 66 := by
 intro y hy
 obtain ⟨k, hk, rfl⟩ := List.mem_map.1 hy
 exact wr_len (h k hk)
/-! ### Reading lines -/
end Go.Proofs.YtlfmdkmjfokgbaaGreatDoor
