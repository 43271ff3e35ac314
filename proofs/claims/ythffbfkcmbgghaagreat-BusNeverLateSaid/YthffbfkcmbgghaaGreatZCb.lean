/-
  The clean machine and the model: when clean values and clean memory stand for the model's.
-/
import Derived.Test.YthffbfkcmbgghaaGreatZCa
import Derived.Test.YthffbfkcmbgghaaGreatZKb
set_option linter.all false
namespace Go.Proofs.YthffbfkcmbgghaaGreat.Cm
open Go Go.RowKit
variable [Val]
structure Pl where
 r : Nat
 o : Nat
 z : Nat
abbrev Phi := Nat → Option Pl
def Phi.le (φ φ' : Phi) : Prop := ∀ b p, φ b = some p → φ' b = some p
mutual
inductive VR (φ : Phi) : CV → Value → Prop
 | bool (b : Bool) : VR φ (.bool b) (.bool b)
 | bs (e : Ex) : VR φ (.bs e) (.bool (e.ev Val.ρ != 0))
 | int (k : IntKind) (n : Int) : VR φ (.int k n) (.int k n)
 | sym (k : IntKind) (e : Ex) : VR φ (.sym k e) (.int k (e.ev Val.ρ))
 | str (s : ByteArray) : VR φ (.str s) (.string s)
 | ss (e : Ex) : VR φ (.ss e) (.string (strOf (e.ev Val.ρ)))
 | nilp : VR φ .nilp (.pointer none)
 | ptr {b o : Nat} {p : Pl} (h : φ b = some p) : VR φ (.ptr b o) (.pointer (some ⟨p.r, p.o + o, none⟩))
 | nils {a : Option Addr} : VR φ .nils (.slice a 0 0)
 | sl {b o n z o' c : Nat} {p : Pl} (h : φ b = some p) (ho : o' = p.o + o ∨ (n = 0 ∧ c = 0)) (hn : n ≤ c) (hz : o' + c * z ≤ p.z) : VR φ (.sl b o n z) (.slice (some ⟨p.r, o', none⟩) n c)
 | gs {b k z c n : Nat} {e : Ex} {fl : Bool} {a : Option Addr} (hn : (n : Int) = e.ev Val.ρ) (hc : n ≤ c) (ha : (∃ p, φ b = some p ∧ a = some ⟨p.r, p.o + k * z, none⟩ ∧ (fl = true → p.o + k * z + c * z ≤ p.z)) ∨ (n = 0 ∧ (fl = true → c = 0))) : VR φ (.gs b k e z fl) (.slice a n c)
 | gp {b k z d : Nat} {x : Ex} {p : Pl} (h : φ b = some p) (hx : 0 ≤ x.ev Val.ρ) : VR φ (.gp b k x z d) (.pointer (some ⟨p.r, p.o + ((k + (x.ev Val.ρ).toNat) * z + d), none⟩))
 | nilm : VR φ .nilm (.map none)
 | map {b : Nat} {p : Pl} (h : φ b = some p) : VR φ (.map b) (.map (some p.r))
 | fn {f : FuncId} {l m : List CV} {l' m' : List Value} (h : VRs φ l l') (k : VRs φ m m') : VR φ (.fn f l m) (.func (.func f) ⟨l'⟩ ⟨m'⟩)
 | yield {b : Nat} {p : Pl} (h : φ b = some p) : VR φ (.yield b) (.func (.yield p.r) #[] #[])
 | nilf : VR φ .nilf .nilFunc
 | agg {l : List CV} {l' : List Value} (h : VRs φ l l') : VR φ (.agg l) (.agg ⟨l'⟩)
 | tup {l : List CV} {l' : List Value} (h : VRs φ l l') : VR φ (.tup l) (.tuple ⟨l'⟩)
 | niln : VR φ .niln (.slice none 0 0)
 | litf (k : FloatKind) (x : Nat) : VR φ (.lit (.float k x)) (.float k x)
 | litc (k : FloatKind) (x y : Nat) : VR φ (.lit (.complex k x y)) (.complex k x y)
inductive VRs (φ : Phi) : List CV → List Value → Prop
 | nil : VRs φ [] []
 | cons {c : CV} {v : Value} {l : List CV} {l' : List Value} (h : VR φ c v) (t : VRs φ l l') : VRs φ (c :: l) (v :: l')
end
mutual
theorem VR.mono {φ φ' : Phi} (hle : φ.le φ') : ∀ {c : CV} {v : Value}, VR φ c v → VR φ' c v
 | _, _, .bool b => .bool b
 | _, _, .bs e => .bs e
 | _, _, .int k n => .int k n
 | _, _, .sym k e => .sym k e
 | _, _, .str s => .str s
 | _, _, .ss e => .ss e
 | _, _, .nilp => .nilp
 | _, _, .ptr h => .ptr (hle _ _ h)
 | _, _, .nils => .nils
 | _, _, .sl h ho hn hz => .sl (hle _ _ h) ho hn hz
 | _, _, .gs hn hc ha => .gs hn hc (ha.imp (fun ⟨p, h, r⟩ => ⟨p, hle _ _ h, r⟩) id)
 | _, _, .gp h hx => .gp (hle _ _ h) hx
 | _, _, .nilm => .nilm
 | _, _, .map h => .map (hle _ _ h)
 | _, _, .fn h k => .fn (h.mono hle) (k.mono hle)
 | _, _, .yield h => .yield (hle _ _ h)
 | _, _, .nilf => .nilf
 | _, _, .agg h => .agg (h.mono hle)
 | _, _, .tup h => .tup (h.mono hle)
 | _, _, .niln => .niln
 | _, _, .litf k x => .litf k x
 | _, _, .litc k x y => .litc k x y
theorem VRs.mono {φ φ' : Phi} (hle : φ.le φ') : ∀ {l : List CV} {l' : List Value}, VRs φ l l' → VRs φ' l l'
 | _, _, .nil => .nil
 | _, _, .cons h t => .cons (h.mono hle) (t.mono hle)
end
theorem VR.nn {φ : Phi} {c : CV} {v : Value} (h : VR φ c v) : VR φ c.nn v := by
 cases h with
 | niln => exact .nils
 | _ => first | exact .bool _ | exact .bs _ | exact .int _ _ | exact .sym _ _ | exact .str _ | exact .ss _ | exact .nilp | exact .ptr (by assumption) | exact .nils | exact .sl (by assumption) (by assumption) (by assumption) (by assumption) | exact .gs (by assumption) (by assumption) (by assumption) | exact .gp (by assumption) (by assumption) | exact .nilm | exact .map (by assumption) | exact .fn (by assumption) (by assumption) | exact .yield (by assumption) | exact .nilf | exact .agg (by assumption) | exact .tup (by assumption) | exact .litf _ _ | exact .litc _ _ _
namespace VRs
variable {φ : Phi}
theorem len : ∀ {l : List CV} {l' : List Value}, VRs φ l l' → l.length = l'.length
 | _, _, .nil => rfl
 | _, _, .cons _ t => by simp [t.len]
theorem get : ∀ {l : List CV} {l' : List Value}, VRs φ l l' → ∀ {i : Nat} {c : CV}, l[i]? = some c → ∃ v, l'[i]? = some v ∧ VR φ c v
 | _, _, .nil, i, c, h => by simp at h
 | _, _, .cons h t, 0, c, e => by simp at e; subst e; exact ⟨_, rfl, h⟩
 | _, _, .cons h t, i + 1, c, e => by simp at e; simpa using t.get e
theorem append : ∀ {l : List CV} {l' : List Value} {m : List CV} {m' : List Value}, VRs φ l l' → VRs φ m m' → VRs φ (l ++ m) (l' ++ m')
 | _, _, _, _, .nil, k => k
 | _, _, _, _, .cons h t, k => .cons h (t.append k)
theorem take : ∀ {l : List CV} {l' : List Value} (n : Nat), VRs φ l l' → VRs φ (l.take n) (l'.take n)
 | _, _, 0, _ => by simpa using .nil
 | _, _, _ + 1, .nil => by simpa using .nil
 | _, _, n + 1, .cons h t => by simpa using .cons h (t.take n)
theorem drop : ∀ {l : List CV} {l' : List Value} (n : Nat), VRs φ l l' → VRs φ (l.drop n) (l'.drop n)
 | _, _, 0, h => by simpa using h
 | _, _, _ + 1, .nil => by simpa using .nil
 | _, _, n + 1, .cons h t => by simpa using t.drop n
end VRs
theorem VR.cells {φ : Phi} {c : CV} {v : Value} (h : VR φ c v) : VRs φ c.cells v.cells.toList := by
 cases h with
 | agg h => exact h
 | bool b => exact .cons (.bool b) .nil
 | bs e => exact .cons (.bs e) .nil
 | int k n => exact .cons (.int k n) .nil
 | sym k e => exact .cons (.sym k e) .nil
 | str s => exact .cons (.str s) .nil
 | ss e => exact .cons (.ss e) .nil
 | nilp => exact .cons .nilp .nil
 | ptr h => exact .cons (.ptr h) .nil
 | nils => exact .cons .nils .nil
 | sl h ho hn hz => exact .cons (.sl h ho hn hz) .nil
 | gs hn hc ha => exact .cons (.gs hn hc ha) .nil
 | gp h hx => exact .cons (.gp h hx) .nil
 | nilm => exact .cons .nilm .nil
 | map h => exact .cons (.map h) .nil
 | fn h k => exact .cons (.fn h k) .nil
 | yield h => exact .cons (.yield h) .nil
 | nilf => exact .cons .nilf .nil
 | tup h => exact .cons (.tup h) .nil
 | niln => exact .cons .niln .nil
 | litf k x => exact .cons (.litf k x) .nil
 | litc k x y => exact .cons (.litc k x y) .nil
theorem VR.cell {φ : Phi} {c : CV} {v : Value} (h : VR φ c v) (hc : c.cell = true) : v.oneCell' = true := by
 cases h <;> first | rfl | simp [CV.cell] at hc
theorem VRs.cell {φ : Phi} : ∀ {l : List CV} {l' : List Value}, VRs φ l l' → l.all (·.cell) = true → ∀ v ∈ l', v.oneCell' = true
 | _, _, .nil, _, v, hv => by simp at hv
 | _, _, .cons h t, e, v, hv => by
  simp only [List.all_cons, Bool.and_eq_true] at e
  rcases List.mem_cons.1 hv with rfl | hv
  ·exact h.cell e.1
  ·exact t.cell e.2 v hv
theorem pv_rel {φ : Phi} {c : CV} {v : Value} (e : c.pv Val.ρ = some v) : VR φ c v ∧ ∀ u, VR φ c u → u = v := by
 cases c <;> first
  | (cases e; done)
  | (injection e with e; subst e; exact ⟨by constructor, fun u hu => by cases hu; rfl⟩)
theorem pvs_rel {φ : Phi} : ∀ {l : List CV} {vs : List Value}, pvs Val.ρ l = some vs → VRs φ l vs ∧ ∀ us, VRs φ l us → us = vs
 | [], vs, e => by injection e with e; subst e; exact ⟨.nil, fun us hu => by cases hu; rfl⟩
 | c :: l, vs, e => by
  unfold pvs at e
  split at e
  ·rename_i v vs' h1 h2
   injection e with e; subst e
   obtain ⟨a1, a2⟩ := pv_rel (φ := φ) h1
   obtain ⟨b1, b2⟩ := pvs_rel (φ := φ) h2
   exact ⟨.cons a1 b1, fun us hu => by cases hu with | cons x y => rw [a2 _ x, b2 _ y]⟩
  ·cases e
theorem pvs_cell : ∀ {ρ : Nat → Int} {l : List CV} {vs : List Value}, pvs ρ l = some vs → ∀ v ∈ vs, v.oneCell' = true
 | _, [], vs, e, v, hv => by injection e with e; subst e; cases hv
 | ρ, c :: l, vs, e, v, hv => by
  unfold pvs at e
  split at e
  ·rename_i u vs' h1 h2
   injection e with e; subst e
   rcases List.mem_cons.1 hv with rfl | hv
   ·cases c <;> first
     | (cases h1; done)
     | (injection h1 with h1; subst h1; rfl)
   ·exact pvs_cell h2 v hv
  ·cases e
theorem pvs_len : ∀ {ρ : Nat → Int} {l : List CV} {vs : List Value}, pvs ρ l = some vs → vs.length = l.length
 | _, [], vs, e => by injection e with e; subst e; rfl
 | ρ, c :: l, vs, e => by
  unfold pvs at e
  split at e
  ·rename_i u vs' h1 h2
   injection e with e; subst e
   simp [pvs_len h2]
  ·cases e
theorem ofV1_rel {φ : Phi} {v : Value} {c : CV} (h : ofV1 v = some c) : VR φ c v := by
 unfold ofV1 at h
 split at h <;> first
  | (injection h with h; subst h; constructor)
  | simp at h
theorem ofVs_rel {φ : Phi} : ∀ {l : List Value} {cs : List CV}, ofVs l = some cs → VRs φ cs l
 | [], cs, h => by simp [ofVs] at h; subst h; exact .nil
 | v :: l, cs, h => by
  simp only [ofVs] at h
  split at h
  ·rename_i c cs' h1 h2
   injection h with h; subst h
   exact .cons (ofV1_rel h1) (ofVs_rel h2)
  ·simp at h
theorem ofV_rel {φ : Phi} {v : Value} {c : CV} (h : ofV v = some c) : VR φ c v := by
 unfold ofV at h
 split at h
 ·rename_i l
  rw [Option.map_eq_some_iff] at h
  obtain ⟨cs, h1, rfl⟩ := h
  exact .agg (ofVs_rel h1)
 ·exact ofV1_rel h
/-! ### Trees -/
theorem beq_dec (a b : Nat) : Nat.beq a b = decide (a = b) := by
 by_cases h : a = b
 ·subst h; simp
 ·rw [decide_eq_false h]
  cases h' : Nat.beq a b with
  | false => rfl
  | true => exact absurd (Nat.eq_of_beq_eq_true h') h
namespace Tr
variable {α : Type}
theorem get_e (j : Nat) : (Tr.e : Tr α).get j = none := rfl
theorem get_n (v : Option α) (l r : Tr α) (j : Nat) : (Tr.n v l r).get j = if j = 0 then v else if j % 2 = 1 then l.get (j / 2) else r.get (j / 2 - 1) := by
 simp only [get, beq_dec]
 by_cases h : j = 0
 ·simp [h]
 ·by_cases h1 : j % 2 = 1 <;> simp [h, h1]
theorem get_nee (v : Option α) (j : Nat) : (Tr.n v .e .e).get j = if j = 0 then v else none := by
 rw [get_n]; simp [get_e]
def wide (t : Tr α) : Tr α := match t with | .e => .n none .e .e | t => t
theorem get_wide (t : Tr α) (j : Nat) : t.wide.get j = t.get j := by
 cases t with
 | e => show (Tr.n none .e .e).get j = _; rw [get_nee, get_e]; simp
 | n v l r => rfl
theorem set_wide (f : Nat) (t : Tr α) (k : Nat) (x : Option α) : t.set (f + 1) k x = t.wide.set (f + 1) k x := by
 cases t <;> rfl
theorem set_n (f : Nat) (v : Option α) (l r : Tr α) (k : Nat) (x : Option α) : (Tr.n v l r).set (f + 1) k x = if k = 0 then .n x l r else if k % 2 = 1 then .n v (l.set f (k / 2) x) r else .n v l (r.set f (k / 2 - 1) x) := by
 simp only [set, beq_dec]
 by_cases h : k = 0
 ·simp [h]
 ·by_cases h1 : k % 2 = 1 <;> simp [h, h1]
theorem get_set' : ∀ (f : Nat) (t : Tr α) (k : Nat) (x : Option α) (j : Nat), k < 2 ^ f → (t.set (f + 1) k x).get j = if j = k then x else t.get j
 | f, t, k, x, j, hk => by
  rw [set_wide, ← get_wide t]
  obtain ⟨v, l, r, e⟩ : ∃ v l r, t.wide = .n v l r := by cases t with | e => exact ⟨_, _, _, rfl⟩ | n v l r => exact ⟨v, l, r, rfl⟩
  rw [e, set_n]
  by_cases h0 : k = 0
  ·subst h0
   rw [if_pos rfl, get_n, get_n]
   by_cases hj : j = 0 <;> simp [hj]
  ·rw [if_neg h0]
   cases f with
   | zero => omega
   | succ f =>
    have hk2 : k / 2 < 2 ^ f := by rw [Nat.pow_succ] at hk; omega
    by_cases hp : k % 2 = 1
    ·rw [if_pos hp, get_n, get_n, get_set' f l (k / 2) x (j / 2) hk2]
     by_cases hj0 : j = 0
     ·rw [if_pos hj0, if_pos hj0, if_neg (by omega)]
     ·rw [if_neg hj0, if_neg hj0]
      by_cases hjp : j % 2 = 1
      ·rw [if_pos hjp, if_pos hjp]
       by_cases hjk : j = k
       ·rw [if_pos hjk, if_pos (by omega)]
       ·rw [if_neg hjk, if_neg (by omega)]
      ·rw [if_neg hjp, if_neg hjp, if_neg (by rintro rfl; exact hjp hp)]
    ·rw [if_neg hp, get_n, get_n, get_set' f r (k / 2 - 1) x (j / 2 - 1) (by omega)]
     by_cases hj0 : j = 0
     ·rw [if_pos hj0, if_pos hj0, if_neg (by omega)]
     ·rw [if_neg hj0, if_neg hj0]
      by_cases hjp : j % 2 = 1
      ·rw [if_pos hjp, if_pos hjp, if_neg (by rintro rfl; exact hp hjp)]
      ·rw [if_neg hjp, if_neg hjp]
       by_cases hjk : j = k
       ·rw [if_pos hjk, if_pos (by omega)]
       ·rw [if_neg hjk, if_neg (by omega)]
theorem get_put (t : Tr α) (k : Nat) (x : Option α) (j : Nat) : (t.put k x).get j = if j = k then x else t.get j := get_set' k t k x j Nat.lt_two_pow_self
end Tr
end Go.Proofs.YthffbfkcmbgghaaGreat.Cm
