/-
  Remainders of bytes are linear, and a change of neighbouring bits is seen.
-/
import Derived.Test.YtefkmidmjofdcaaZAb
set_option linter.all false
namespace Go.Proofs.Ytefkmidmjofdcaa
open Go Go.RowKit

theorem bit_xor {a b : Nat} (ha : a < 4294967296) (hb : b < 4294967296) : Cm.bitE .xor .i64 (a : Int) (b : Int) = ((a ^^^ b : Nat) : Int) := by
  have hx : a ^^^ b < 2 ^ 32 := Nat.xor_lt_two_pow (by omega) (by omega)
  show IntKind.wrap .i64 (((BitVec.ofInt 64 (a : Int) ^^^ BitVec.ofInt 64 (b : Int)).toNat : Nat) : Int) = _
  rw [BitVec.ofInt_natCast, BitVec.ofInt_natCast, BitVec.toNat_xor, BitVec.toNat_ofNat, BitVec.toNat_ofNat, Nat.mod_eq_of_lt (by omega), Nat.mod_eq_of_lt (by omega)]
  exact wrapB (by omega) (by omega)
def stN (v : Nat) : Nat := bif Nat.ble 256 (v * 2) then (v * 2) ^^^ 263 else v * 2
theorem stp_nat {v : Nat} (h : v < 256) : stp (v : Int) = (stN v : Int) := by
  unfold stp stN
  rw [show (v : Int) * 2 = ((v * 2 : Nat) : Int) by omega, wrapB (by omega) (by omega)]
  by_cases h1 : 256 ≤ v * 2
  · rw [if_pos (by omega), show (263 : Int) = ((263 : Nat) : Int) from rfl, bit_xor (by omega) (by omega), Nat.ble_eq_true_of_le h1, cond_true]
  · rw [if_neg (by omega), show Nat.ble 256 (v * 2) = false by rw [← Bool.not_eq_true]; exact fun c => h1 (Nat.le_of_ble_eq_true c), cond_false]
theorem nb_ne {a b : Nat} (h : (!Nat.beq a b) = true) : a ≠ b := fun c => by subst c; simp at h
theorem nb_or {a b : Nat} {c : Bool} (h : (Nat.beq a b || c) = true) (hn : a ≠ b) : c = true := by
  rcases Bool.or_eq_true_iff.1 h with h | h
  · exact absurd (Nat.eq_of_beq_eq_true h) hn
  · exact h
def ltAll (n : Nat) (f : Nat → Bool) : Bool := match n with
  | 0 => true
  | n + 1 => f n && ltAll n f
theorem ltAll_at {f : Nat → Bool} : ∀ {n : Nat}, ltAll n f = true → ∀ i, i < n → f i = true
  | 0, _, i, h => by omega
  | n + 1, h, i, hi => by
    simp only [ltAll, Bool.and_eq_true] at h
    rcases Nat.lt_or_ge i n with h1 | h1
    · exact ltAll_at h.2 i h1
    · rw [show i = n by omega]; exact h.1
theorem stN_lt {v : Nat} (h : v < 256) : stN v < 256 := by
  have := ltAll_at (n := 256) (f := fun v => Nat.blt (stN v) 256) (by kernel_rfl) v h
  exact Nat.le_of_ble_eq_true this
theorem stN_lin {a b : Nat} (ha : a < 256) (hb : b < 256) : stN (a ^^^ b) = stN a ^^^ stN b := by
  have := ltAll_at (ltAll_at (n := 256) (f := fun a => ltAll 256 fun b => Nat.beq (stN (a ^^^ b)) (stN a ^^^ stN b)) (by kernel_rfl) a ha) b hb
  exact Nat.eq_of_beq_eq_true this
def itN : Nat → Nat → Nat
  | 0, v => v
  | n + 1, v => itN n (stN v)
theorem xor_lt {a b : Nat} (ha : a < 256) (hb : b < 256) : a ^^^ b < 256 := Nat.xor_lt_two_pow (n := 8) ha hb
theorem it_nat : ∀ (n : Nat) {v : Nat}, v < 256 → it n (v : Int) = (itN n v : Int) ∧ itN n v < 256
  | 0, v, h => ⟨rfl, h⟩
  | n + 1, v, h => by
    unfold it itN
    rw [stp_nat h]
    exact it_nat n (stN_lt h)
theorem itN_lin : ∀ (n : Nat) {a b : Nat}, a < 256 → b < 256 → itN n (a ^^^ b) = itN n a ^^^ itN n b
  | 0, a, b, _, _ => rfl
  | n + 1, a, b, ha, hb => by
    unfold itN
    rw [stN_lin ha hb]
    exact itN_lin n (stN_lt ha) (stN_lt hb)
theorem it8_zero : itN 8 0 = 0 := by kernel_rfl
theorem it8_ne {v : Nat} (h : v < 256) (h0 : v ≠ 0) : itN 8 v ≠ 0 := by
  have := ltAll_at (n := 256) (f := fun v => Nat.beq v 0 || !Nat.beq (itN 8 v) 0) (by kernel_rfl) v h
  exact nb_ne (nb_or this h0)
def rmN : List Nat → Nat → Nat
  | [], v => v
  | e :: r, v => rmN r (itN 8 (v ^^^ e))
def bytesN (l : List Nat) : Prop := ∀ x ∈ l, x < 256
theorem rm_nat : ∀ (l : List Nat) {v : Nat}, bytesN l → v < 256 → rm (l.map fun (x : Nat) => (x : Int)) (v : Int) = (rmN l v : Int) ∧ rmN l v < 256
  | [], v, _, h => ⟨rfl, h⟩
  | e :: r, v, hl, h => by
    have he := hl e List.mem_cons_self
    rw [List.map_cons, rm, rmN, bit_xor (by omega) (by omega), (it_nat 8 (xor_lt h he)).1]
    exact rm_nat r (fun x hx => hl x (List.mem_cons_of_mem _ hx)) (it_nat 8 (xor_lt h he)).2
theorem xor4 (u v a b : Nat) : (u ^^^ v) ^^^ (a ^^^ b) = (u ^^^ a) ^^^ (v ^^^ b) := by
  rw [Nat.xor_assoc, Nat.xor_assoc, ← Nat.xor_assoc v a b, Nat.xor_comm v a, Nat.xor_assoc a v b]
theorem rmN_lin {α : Type} (f g : α → Nat) : ∀ (l : List α) {u v : Nat}, (∀ x ∈ l, f x < 256 ∧ g x < 256) → u < 256 → v < 256 → rmN (l.map fun x => f x ^^^ g x) (u ^^^ v) = rmN (l.map f) u ^^^ rmN (l.map g) v
  | [], u, v, _, _, _ => rfl
  | e :: r, u, v, hl, hu, hv => by
    obtain ⟨h1, h2⟩ := hl e List.mem_cons_self
    rw [List.map_cons, List.map_cons, List.map_cons, rmN, rmN, rmN, xor4, itN_lin 8 (xor_lt hu h1) (xor_lt hv h2)]
    exact rmN_lin f g r (fun x hx => hl x (List.mem_cons_of_mem _ hx)) (it_nat 8 (xor_lt hu h1)).2 (it_nat 8 (xor_lt hv h2)).2
theorem rmN_app : ∀ (l : List Nat) (e v : Nat), rmN (l ++ [e]) v = itN 8 (rmN l v ^^^ e)
  | [], e, v => rfl
  | a :: l, e, v => by rw [List.cons_append, rmN, rmN, rmN_app l]
theorem rmN_z (r : List Nat) : rmN (0 :: r) 0 = rmN r 0 := by
  rw [rmN, Nat.xor_zero, it8_zero]
theorem rmN_nz : ∀ (n : Nat) {v : Nat}, v < 256 → v ≠ 0 → rmN (List.replicate n 0) v ≠ 0
  | 0, v, _, h0 => h0
  | n + 1, v, h, h0 => by
    rw [List.replicate_succ, rmN, Nat.xor_zero]
    exact rmN_nz n (it_nat 8 h).2 (it8_ne h h0)

/-! ### A pattern of 8 bits, laid over two bytes -/
def hl (s p : Nat) : Nat → Nat → Nat → Nat → Bool → Nat × Nat × Bool
  | 0, _, H, L, a => (H, L, a)
  | m + 1, k, H, L, a => bif p.testBit k then (bif Nat.blt (s + k) 8 then hl s p m (k + 1) (H ^^^ 2 ^ (7 - (s + k))) L true else hl s p m (k + 1) H (L ^^^ 2 ^ (15 - (s + k))) true) else hl s p m (k + 1) H L a
def h7 (s p : Nat) : Nat → Nat → Nat → Bool → Nat × Bool
  | 0, _, H, a => (H, a)
  | m + 1, k, H, a => bif Nat.blt (s + k) 8 then (bif p.testBit k then h7 s p m (k + 1) (H ^^^ 2 ^ (7 - (s + k))) true else h7 s p m (k + 1) H a) else (H, a)
theorem hl_ok {s p : Nat} (hs : s < 8) (hp : p < 256) (h0 : p ≠ 0) : (hl s p 8 0 0 0 false).1 < 256 ∧ (hl s p 8 0 0 0 false).2.1 < 256 ∧ itN 8 (hl s p 8 0 0 0 false).1 ^^^ (hl s p 8 0 0 0 false).2.1 ≠ 0 := by
  have := ltAll_at (ltAll_at (n := 8) (f := fun s => ltAll 256 fun p => Nat.beq p 0 || (Nat.blt (hl s p 8 0 0 0 false).1 256 && Nat.blt (hl s p 8 0 0 0 false).2.1 256 && !Nat.beq (itN 8 (hl s p 8 0 0 0 false).1 ^^^ (hl s p 8 0 0 0 false).2.1) 0)) (by kernel_rfl) s hs) p hp
  have := nb_or this h0
  simp only [Bool.and_eq_true] at this
  obtain ⟨⟨h1, h2⟩, h3⟩ := this
  exact ⟨Nat.le_of_ble_eq_true h1, Nat.le_of_ble_eq_true h2, nb_ne h3⟩
theorem h7_ok {s p : Nat} (hs : s < 8) (hp : p < 256) : (h7 s p 8 0 0 false).1 < 256 ∧ ((h7 s p 8 0 0 false).2 = true → (h7 s p 8 0 0 false).1 ≠ 0) := by
  have := ltAll_at (ltAll_at (n := 8) (f := fun s => ltAll 256 fun p => Nat.blt (h7 s p 8 0 0 false).1 256 && (!(h7 s p 8 0 0 false).2 || !Nat.beq (h7 s p 8 0 0 false).1 0)) (by kernel_rfl) s hs) p hp
  obtain ⟨h1, h2⟩ := Bool.and_eq_true_iff.1 this
  refine ⟨Nat.le_of_ble_eq_true h1, fun ha => ?_⟩
  rcases Bool.or_eq_true_iff.1 h2 with h2 | h2
  · rw [ha] at h2; cases h2
  · exact nb_ne h2
end Go.Proofs.Ytefkmidmjofdcaa
