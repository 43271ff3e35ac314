/-
  The clean machine: states by a pattern, over other numbers: when a state that was reached is one that a pattern says.
-/
import Derived.Test.YthffbfkcmbgghaaGreatZCz
set_option linter.all false
namespace Go.Proofs.YthffbfkcmbgghaaGreat.Cm
open Go Go.RowKit
theorem bif_s {c : Bool} {α : Type} {x : Option α} {y : α} (e : (bif c then x else none) = some y) : c = true ∧ x = some y := by
 cases c <;> simp at e ⊢; exact e
theorem ble_s {a b : Nat} (e : Nat.ble a b = true) : a ≤ b := Nat.le_of_ble_eq_true e
theorem beq_s {a b : Nat} (e : Nat.beq a b = true) : a = b := Nat.eq_of_beq_eq_true e
abbrev Sg := Nat → Option (Nat × Nat)
def sgL (l : List (Option (Nat × Nat))) : Sg := fun b => match l[b]? with
 | some x => x
 | none => none
def phiS (φ : Phi) (sg : Sg) : Phi := fun b => match sg b with
 | some (b1, o) => (φ b1).map fun p => ⟨p.r, p.o + o, p.z⟩
 | none => none
theorem phiS_some {φ : Phi} {sg : Sg} {b b1 o : Nat} {p : Pl} (h : sg b = some (b1, o)) (hp : φ b1 = some p) : phiS φ sg b = some ⟨p.r, p.o + o, p.z⟩ := by
 unfold phiS; rw [h]; simp [hp]
theorem phiS_inv {φ : Phi} {sg : Sg} {b : Nat} {q : Pl} (h : phiS φ sg b = some q) : ∃ b1 o p, sg b = some (b1, o) ∧ φ b1 = some p ∧ q = ⟨p.r, p.o + o, p.z⟩ := by
 unfold phiS at h
 split at h
 ·rename_i b1 o hs
  rw [Option.map_eq_some_iff] at h
  obtain ⟨p, hp, rfl⟩ := h
  exact ⟨b1, o, p, hs, hp, rfl⟩
 ·cases h
inductive Eqn where
 | num (e e' : Ex)
 | lst (j : Nat) (i : Option Nat) (l : List CV)
 | cod (l : Nat × List Nat)
def Eqn.ok (V V' : Val) : Eqn → Prop
 | .num e e' => e.ev V.ρ = e'.ev V'.ρ
 | .lst j (some i) l => ∃ vs, pvs V.ρ l = some vs ∧ V'.lst j = V.lst i ++ vs
 | .lst j none l => pvs V.ρ l = some (V'.lst j)
 | .cod l => V.cod l = V'.cod l
def eqnsOk (V V' : Val) : List Eqn → Prop
 | [] => True
 | q :: l => q.ok V V' ∧ eqnsOk V V' l
theorem eqns_app {V V' : Val} : ∀ {a b : List Eqn}, eqnsOk V V' (a ++ b) → eqnsOk V V' a ∧ eqnsOk V V' b
 | [], b, h => ⟨trivial, h⟩
 | q :: a, b, h => by
  obtain ⟨h1, h2⟩ := h
  obtain ⟨h3, h4⟩ := eqns_app h2
  exact ⟨⟨h1, h3⟩, h4⟩
def re1 (sg : Sg) : CV → CV → Option (List Eqn)
 | .bool a, .bool b => bif a == b then some [] else none
 | .bool a, .bs e' => some [.num (.c (bif a then 1 else 0)) e']
 | .bs e, .bs e' => some [.num e e']
 | .bs e, .bool b => some [.num e (.c (bif b then 1 else 0))]
 | .str a, .str b => if a = b then some [] else none
 | .str a, .ss e' => some [.num (.c (codeS a)) e']
 | .ss e, .ss e' => some [.num e e']
 | .ss e, .str b => some [.num e (.c (codeS b))]
 | .nilp, .nilp => some []
 | .nils, .nils => some []
 | .niln, .niln => some []
 | .niln, .nils => some []
 | .nilm, .nilm => some []
 | .nilf, .nilf => some []
 | .int k n, .int k' m => if k = k' then (bif n == m then some [] else none) else none
 | .int k n, .sym k' e' => if k = k' then some [.num (.c n) e'] else none
 | .sym k e, .sym k' e' => if k = k' then some [.num e e'] else none
 | .sym k e, .int k' n => if k = k' then some [.num e (.c n)] else none
 | .ptr b o, .ptr b' o' => match sg b' with
  | some (b1, o1) => bif Nat.beq b b1 && Nat.beq o (o1 + o') then some [] else none
  | none => none
 | .gs b k e z f, .gs b' k' e' z' f' => match sg b' with
  | some (b1, o1) => bif Nat.beq b b1 && Nat.beq o1 0 && Nat.beq k k' && Nat.beq z z' && (f || !f') then some [.num e e'] else none
  | none => none
 | .nils, .gs b' _ e' _ _ => match sg b' with
  | none => some [.num (.c 0) e']
  | some _ => none
 | .niln, .gs b' _ e' _ _ => match sg b' with
  | none => some [.num (.c 0) e']
  | some _ => none
 | .sl b o n z, .gs b' k' e' z' _ => match sg b' with
  | some (b1, o1) => bif Nat.beq b b1 && Nat.beq o o1 && Nat.beq k' 0 && Nat.beq z z' then some [.num (.c n) e'] else none
  | none => none
 | .sl b o n z, .sl b' o' n' z' => match sg b' with
  | some (b1, o1) => bif Nat.beq b b1 && Nat.beq o (o1 + o') && Nat.beq n n' && Nat.beq z z' then some [] else none
  | none => none
 | .yield b, .yield b' => match sg b' with
  | some (b1, _) => bif Nat.beq b b1 then some [] else none
  | none => none
 | .map b, .map b' => match sg b' with
  | some (b1, _) => bif Nat.beq b b1 then some [] else none
  | none => none
 | _, _ => none
def reL (f : CV → CV → Option (List Eqn)) : List CV → List CV → Option (List Eqn)
 | [], [] => some []
 | a :: l, b :: m => match f a b, reL f l m with
  | some x, some y => some (x ++ y)
  | _, _ => none
 | _, _ => none
def reA (sg : Sg) (c c' : CV) : Option (List Eqn) :=
 match c, c' with
 | .agg l, .agg m => reL (re1 sg) l m
 | c, c' => re1 sg c c'
def reF (sg : Sg) (c c' : CV) : Option (List Eqn) :=
 match c, c' with
 | .fn f l m, .fn f' l' m' => if f = f' then match reL (reA sg) l l', reL (reA sg) m m' with
  | some x, some y => some (x ++ y)
  | _, _ => none
  else none
 | c, c' => reA sg c c'
def reT (sg : Sg) (c c' : CV) : Option (List Eqn) :=
 match c, c' with
 | .tup l, .tup m => reL (reF sg) l m
 | c, c' => reF sg c c'
section
variable {V V' : Val} {φ : Phi} {sg : Sg}
theorem re1_rel {c c' : CV} {v : Value} {qs : List Eqn} (e : re1 sg c c' = some qs) (hq : eqnsOk V V' qs) (h : @VR V φ c v) : @VR V' (phiS φ sg) c' v := by
 unfold re1 at e
 split at e
 ·rename_i a b
  obtain ⟨h1, _⟩ := bif_s e
  have h1 : a = b := by simpa using h1
  subst h1; cases h; exact @VR.bool V' _ _
 ·rename_i a e'
  injection e with e; subst e
  have h1 : (bif a then 1 else 0 : Int) = e'.ev V'.ρ := by
   have := hq.1; simpa [Eqn.ok, Ex.ev] using this
  cases h
  have h2 : (e'.ev V'.ρ != 0) = a := by rw [← h1]; cases a <;> rfl
  have := @VR.bs V' (phiS φ sg) e'
  rw [h2] at this; exact this
 ·rename_i x e'
  injection e with e; subst e
  have h1 : x.ev V.ρ = e'.ev V'.ρ := hq.1
  cases h
  rw [h1]; exact @VR.bs V' _ _
 ·rename_i x b
  injection e with e; subst e
  have h1 : x.ev V.ρ = (bif b then 1 else 0 : Int) := hq.1
  cases h
  have h2 : (x.ev V.ρ != 0) = b := by rw [h1]; cases b <;> rfl
  rw [h2]; exact @VR.bool V' _ _
 ·rename_i a b
  split at e
  ·rename_i h1; subst h1; cases h; exact @VR.str V' _ _
  ·cases e
 ·rename_i a e'
  injection e with e; subst e
  have h1 : codeS a = e'.ev V'.ρ := hq.1
  cases h
  have := @VR.ss V' (phiS φ sg) e'
  rw [← h1, strOf_code] at this; exact this
 ·rename_i x e'
  injection e with e; subst e
  have h1 : x.ev V.ρ = e'.ev V'.ρ := hq.1
  cases h
  rw [h1]; exact @VR.ss V' _ _
 ·rename_i x b
  injection e with e; subst e
  have h1 : x.ev V.ρ = codeS b := hq.1
  cases h
  rw [h1, strOf_code]; exact @VR.str V' _ _
 ·cases h; exact @VR.nilp V' _
 ·cases h; exact @VR.nils V' _ _
 ·cases h; exact @VR.niln V' _
 ·cases h; exact @VR.nils V' _ _
 ·cases h; exact @VR.nilm V' _
 ·cases h; exact @VR.nilf V' _
 ·rename_i k n k' m
  split at e
  ·rename_i hk; subst hk
   obtain ⟨h1, _⟩ := bif_s e
   have h1 : n = m := by simpa using h1
   subst h1; cases h; exact @VR.int V' _ _ _
  ·cases e
 ·rename_i k n k' e'
  split at e
  ·rename_i hk; subst hk
   injection e with e; subst e
   have h1 : n = e'.ev V'.ρ := hq.1
   cases h
   rw [h1]; exact @VR.sym V' _ _ _
  ·cases e
 ·rename_i k x k' e'
  split at e
  ·rename_i hk; subst hk
   injection e with e; subst e
   have h1 : x.ev V.ρ = e'.ev V'.ρ := hq.1
   cases h
   rw [h1]; exact @VR.sym V' _ _ _
  ·cases e
 ·rename_i k x k' m
  split at e
  ·rename_i hk; subst hk
   injection e with e; subst e
   have h1 : x.ev V.ρ = m := hq.1
   cases h
   rw [h1]; exact @VR.int V' _ _ _
  ·cases e
 ·rename_i b o b' o'
  split at e
  ·rename_i b1 o1 hs
   obtain ⟨h1, _⟩ := bif_s e
   simp only [Bool.and_eq_true] at h1
   have h2 := beq_s h1.1
   have h3 := beq_s h1.2
   subst h2; subst h3
   cases h with
   | ptr hp =>
    rename_i p
    have := @VR.ptr V' (phiS φ sg) b' o' _ (phiS_some hs hp)
    simp only at this
    rw [Nat.add_assoc] at this; exact this
  ·cases e
 ·rename_i b k x z f b' k' e' z' f'
  split at e
  ·rename_i b1 o1 hs
   obtain ⟨h1, e2⟩ := bif_s e
   clear e
   simp only [Bool.and_eq_true] at h1
   obtain ⟨⟨⟨⟨h1, h2⟩, h3⟩, h4⟩, h5⟩ := h1
   have h1 := beq_s h1
   have h2 := beq_s h2
   have h3 := beq_s h3
   have h4 := beq_s h4
   subst h1; subst h2; subst h3; subst h4
   injection e2 with e2; subst e2
   have h6 : x.ev V.ρ = e'.ev V'.ρ := hq.1
   have h7 : f' = true → f = true := fun hf => by subst hf; simpa using h5
   cases h with
   | gs hn hc ha =>
    refine @VR.gs V' _ _ _ _ _ _ _ _ _ (by rw [hn]; exact h6) hc ?_
    rcases ha with ⟨p, hp, rfl, hf⟩ | ⟨h0, h0'⟩
    ·exact .inl ⟨_, phiS_some hs hp, rfl, fun h => hf (h7 h)⟩
    ·exact .inr ⟨h0, fun h => h0' (h7 h)⟩
  ·cases e
 ·rename_i b' k' e' z' f'
  split at e
  ·injection e with e; subst e
   have h1 : (0 : Int) = e'.ev V'.ρ := hq.1
   cases h
   exact @VR.gs V' _ _ _ _ _ _ _ _ _ h1 (Nat.le_refl _) (.inr ⟨rfl, fun _ => rfl⟩)
  ·cases e
 ·rename_i b' k' e' z' f'
  split at e
  ·injection e with e; subst e
   have h1 : (0 : Int) = e'.ev V'.ρ := hq.1
   cases h
   exact @VR.gs V' _ _ _ _ _ _ _ _ _ h1 (Nat.le_refl _) (.inr ⟨rfl, fun _ => rfl⟩)
  ·cases e
 ·rename_i b o n z b' k' e' z' f'
  split at e
  ·rename_i b1 o1 hs
   obtain ⟨h1, e2⟩ := bif_s e
   clear e
   simp only [Bool.and_eq_true] at h1
   obtain ⟨⟨⟨h1, h2⟩, h3⟩, h4⟩ := h1
   have h1 := beq_s h1
   have h2 := beq_s h2
   have h3 := beq_s h3
   have h4 := beq_s h4
   subst h1; subst h2; subst h3; subst h4
   injection e2 with e2; subst e2
   have h6 : (n : Int) = e'.ev V'.ρ := hq.1
   cases h with
   | sl hp ho hn hz =>
    rename_i o' c p
    refine @VR.gs V' _ _ _ _ _ _ _ _ _ h6 hn ?_
    rcases ho with rfl | ⟨h0, h0'⟩
    ·refine .inl ⟨_, phiS_some hs hp, by simp, fun _ => ?_⟩
     show p.o + o + 0 * z + c * z ≤ p.z
     rw [Nat.zero_mul]; exact hz
    ·exact .inr ⟨h0, fun _ => h0'⟩
  ·cases e
 ·rename_i b o n z b' o' n' z'
  split at e
  ·rename_i b1 o1 hs
   obtain ⟨h1, e2⟩ := bif_s e
   clear e
   simp only [Bool.and_eq_true] at h1
   obtain ⟨⟨⟨h1, h2⟩, h3⟩, h4⟩ := h1
   have h1 := beq_s h1
   have h2 := beq_s h2
   have h3 := beq_s h3
   have h4 := beq_s h4
   subst h1; subst h2; subst h3; subst h4
   cases h with
   | sl hp ho hn hz =>
    rename_i o2 c p
    refine @VR.sl V' (phiS φ sg) b' o' n z o2 c ⟨p.r, p.o + o1, p.z⟩ (phiS_some hs hp) ?_ hn hz
    rcases ho with rfl | h0
    ·left; show p.o + (o1 + o') = p.o + o1 + o'; omega
    ·exact .inr h0
  ·cases e
 ·rename_i b b'
  split at e
  ·rename_i b1 o1 hs
   obtain ⟨h1, _⟩ := bif_s e
   have h1 := beq_s h1
   subst h1
   cases h with
   | yield hp => have := @VR.yield V' (phiS φ sg) b' _ (phiS_some hs hp); exact this
  ·cases e
 ·rename_i b b'
  split at e
  ·rename_i b1 o1 hs
   obtain ⟨h1, _⟩ := bif_s e
   have h1 := beq_s h1
   subst h1
   cases h with
   | map hp => have := @VR.map V' (phiS φ sg) b' _ (phiS_some hs hp); exact this
  ·cases e
 ·cases e
theorem reL_rel {f : CV → CV → Option (List Eqn)} (hf : ∀ {c c' : CV} {v : Value} {qs : List Eqn}, f c c' = some qs → eqnsOk V V' qs → @VR V φ c v → @VR V' (phiS φ sg) c' v) :
  ∀ {l m : List CV} {vs : List Value} {qs : List Eqn}, reL f l m = some qs → eqnsOk V V' qs → @VRs V φ l vs → @VRs V' (phiS φ sg) m vs
 | [], [], vs, qs, _, _, h => by cases h; exact @VRs.nil V' _
 | a :: l, b :: m, vs, qs, e, hq, h => by
  unfold reL at e
  split at e
  ·rename_i x y h1 h2
   injection e with e; subst e
   obtain ⟨q1, q2⟩ := eqns_app hq
   cases h with
   | cons g1 g2 => exact @VRs.cons V' _ _ _ _ _ (hf h1 q1 g1) (reL_rel hf h2 q2 g2)
  ·cases e
 | [], _ :: _, _, _, e, _, _ => by cases e
 | _ :: _, [], _, _, e, _, _ => by cases e
theorem reA_rel {c c' : CV} {v : Value} {qs : List Eqn} (e : reA sg c c' = some qs) (hq : eqnsOk V V' qs) (h : @VR V φ c v) : @VR V' (phiS φ sg) c' v := by
 unfold reA at e
 split at e
 ·cases h with
  | agg h => exact @VR.agg V' _ _ _ (reL_rel re1_rel e hq h)
 ·exact re1_rel e hq h
theorem reF_rel {c c' : CV} {v : Value} {qs : List Eqn} (e : reF sg c c' = some qs) (hq : eqnsOk V V' qs) (h : @VR V φ c v) : @VR V' (phiS φ sg) c' v := by
 unfold reF at e
 split at e
 ·split at e
  ·rename_i hk; subst hk
   split at e
   ·rename_i x y h1 h2
    injection e with e; subst e
    obtain ⟨q1, q2⟩ := eqns_app hq
    cases h with
    | fn g1 g2 => exact @VR.fn V' _ _ _ _ _ _ (reL_rel reA_rel h1 q1 g1) (reL_rel reA_rel h2 q2 g2)
   ·cases e
  ·cases e
 ·exact reA_rel e hq h
theorem reT_rel {c c' : CV} {v : Value} {qs : List Eqn} (e : reT sg c c' = some qs) (hq : eqnsOk V V' qs) (h : @VR V φ c v) : @VR V' (phiS φ sg) c' v := by
 unfold reT at e
 split at e
 ·cases h with
  | tup h => exact @VR.tup V' _ _ _ (reL_rel reF_rel e hq h)
 ·exact reF_rel e hq h
end
/-! ### Blocks -/
theorem same_ns : ∀ {l m : List Nat}, sameNs l m = true → l = m
 | [], [], _ => rfl
 | a :: l, b :: m, h => by
  simp only [sameNs, Bool.and_eq_true] at h
  rw [beq_s h.1, same_ns h.2]
 | [], _ :: _, h => by cases h
 | _ :: _, [], h => by cases h
def reTr (f : CV → CV → Option (List Eqn)) : Tr CV → Tr CV → Option (List Eqn)
 | _, .e => some []
 | .e, .n none l' r' => match reTr f .e l', reTr f .e r' with
  | some y, some z => some (y ++ z)
  | _, _ => none
 | .e, .n (some _) _ _ => none
 | .n _ l r, .n none l' r' => match reTr f l l', reTr f r r' with
  | some y, some z => some (y ++ z)
  | _, _ => none
 | .n none _ _, .n (some _) _ _ => none
 | .n (some c) l r, .n (some c') l' r' => match f c c', reTr f l l', reTr f r r' with
  | some x, some y, some z => some (x ++ (y ++ z))
  | _, _, _ => none
theorem reTr_at {V V' : Val} {f : CV → CV → Option (List Eqn)} : ∀ {t' t : Tr CV} {qs : List Eqn}, reTr f t t' = some qs → eqnsOk V V' qs → ∀ k c', t'.get k = some c' → ∃ c q, t.get k = some c ∧ f c c' = some q ∧ eqnsOk V V' q := by
 letI : Val := ⟨fun _ => 0, fun _ => [], fun _ => (.skip, .skip)⟩
 intro t'
 induction t' with
 | e => intro t qs _ _ k c' h; rw [Tr.get_e] at h; cases h
 | n v' l' r' ihl ihr =>
  intro t qs e hq k c' h
  rw [Tr.get_n] at h
  cases v' with
  | none =>
   cases t with
   | e =>
    unfold reTr at e
    split at e
    ·rename_i y z h1 h2
     injection e with e; subst e
     obtain ⟨q1, q2⟩ := eqns_app hq
     by_cases h0 : k = 0
     ·rw [if_pos h0] at h; cases h
     ·rw [if_neg h0] at h
      by_cases hk : k % 2 = 1
      ·rw [if_pos hk] at h
       obtain ⟨c, q, a1, _⟩ := ihl h1 q1 _ _ h
       rw [Tr.get_e] at a1; cases a1
      ·rw [if_neg hk] at h
       obtain ⟨c, q, a1, _⟩ := ihr h2 q2 _ _ h
       rw [Tr.get_e] at a1; cases a1
    ·cases e
   | n v l r =>
    have e : (match reTr f l l', reTr f r r' with
     | some y, some z => some (y ++ z)
     | _, _ => none) = some qs := by cases v <;> exact e
    split at e
    ·rename_i y z h1 h2
     injection e with e; subst e
     obtain ⟨q1, q2⟩ := eqns_app hq
     rw [Tr.get_n]
     by_cases h0 : k = 0
     ·rw [if_pos h0] at h; cases h
     ·rw [if_neg h0] at h ⊢
      by_cases hk : k % 2 = 1
      ·rw [if_pos hk] at h ⊢
       exact ihl h1 q1 _ _ h
      ·rw [if_neg hk] at h ⊢
       exact ihr h2 q2 _ _ h
    ·cases e
  | some d' =>
   cases t with
   | e => cases e
   | n v l r =>
    cases v with
    | none => cases e
    | some d =>
     unfold reTr at e
     split at e
     ·rename_i x y z h0 h1 h2
      injection e with e; subst e
      obtain ⟨q0, q3⟩ := eqns_app hq
      obtain ⟨q1, q2⟩ := eqns_app q3
      rw [Tr.get_n]
      by_cases hz : k = 0
      ·rw [if_pos hz] at h ⊢
       injection h with h; subst h
       exact ⟨d, x, rfl, h0, q0⟩
      ·rw [if_neg hz] at h ⊢
       by_cases hk : k % 2 = 1
       ·rw [if_pos hk] at h ⊢
        exact ihl h1 q1 _ _ h
       ·rw [if_neg hk] at h ⊢
        exact ihr h2 q2 _ _ h
     ·cases e
def sameLS : LoopState → LoopState → Bool
 | .ready, .ready => true
 | .busy, .busy => true
 | .done, .done => true
 | .exhausted, .exhausted => true
 | _, _ => false
theorem sameLS_eq {a b : LoopState} (h : sameLS a b = true) : a = b := by
 cases a <;> cases b <;> first | rfl | cases h
def sameAt (a b : Nat × List Nat) : Bool := Nat.beq a.1 b.1 && sameNs a.2 b.2
theorem sameAt_eq {a b : Nat × List Nat} (h : sameAt a b = true) : a = b := by
 obtain ⟨a1, a2⟩ := a
 obtain ⟨b1, b2⟩ := b
 simp only [sameAt, Bool.and_eq_true] at h
 rw [beq_s h.1, same_ns h.2]
def isAt (sg : Sg) (df df' : Nat) : Bool := match sg df' with
 | some (b, o) => Nat.beq b df && Nat.beq o 0
 | none => false
def reO (sg : Sg) (o1 : Nat) (o o' : CObj) : Option (List Eqn) :=
 match o, o' with
 | .cells l t r, .cells l' t' r' => bif Nat.beq o1 0 && Nat.beq t t' && (r' || r == r') then reL (reF sg) l l' else none
 | .rows i l t r, .rows j [] t' r' => bif Nat.beq o1 0 && (r' || Nat.beq t t') && (r' || r == r') then some [.lst j (some i) l] else none
 | .cells l t r, .rows j [] t' r' => bif Nat.ble o1 l.length && (r' || Nat.beq t t') && (r' || r == r') then some [.lst j none (l.drop o1)] else none
 | .dfr, .dfr => bif Nat.beq o1 0 then some [] else none
 | .loop st pe ts nt ps l df, .loop st' pe' ts' nt' ps' l' df' => bif sameLS st st' && decide (pe = pe') && Nat.beq nt nt' && sameNs ps ps' && sameAt l l' && isAt sg df df' then (reTr (reT sg) ts ts').map (fun q => .cod l :: q) else none
 | .glob g k l, .glob g' k' l' => bif Nat.beq o1 0 && Nat.beq g g' && decide (k = k') && sameNs l l' then some [] else none
 | .map l, .map l' => bif Nat.beq o1 0 then (match reL (reF sg) (l.map (·.1)) (l'.map (·.1)), reL (reF sg) (l.map (·.2)) (l'.map (·.2)) with
  | some x, some y => some (x ++ y)
  | _, _ => none) else none
 | _, _ => none
theorem reO_ro {sg : Sg} {o1 : Nat} {o o' : CObj} {qs : List Eqn} (e : reO sg o1 o o' = some qs) (h0 : o.ro = true) : o'.ro = true := by
 unfold reO at e
 split at e
 ·obtain ⟨h, _⟩ := bif_s e
  simp only [Bool.and_eq_true, beq_iff_eq, Bool.or_eq_true] at h
  rcases h.2 with h | h
  ·exact h
  ·exact h.symm.trans h0
 ·obtain ⟨h, _⟩ := bif_s e
  simp only [Bool.and_eq_true, beq_iff_eq, Bool.or_eq_true] at h
  rcases h.2 with h | h
  ·exact h
  ·exact h.symm.trans h0
 ·obtain ⟨h, _⟩ := bif_s e
  simp only [Bool.and_eq_true, beq_iff_eq, Bool.or_eq_true] at h
  rcases h.2 with h | h
  ·exact h
  ·exact h.symm.trans h0
 ·exact h0
 ·cases h0
 ·rfl
 ·exact h0
 ·cases e
theorem reO_rw {sg : Sg} {o1 : Nat} {o o' : CObj} {qs : List Eqn} (e : reO sg o1 o o' = some qs) (h0 : o'.ro = false) : o.ro = false := by
 cases h : o.ro with
 | false => rfl
 | true => rw [reO_ro e h] at h0; cases h0
section
variable {V V' : Val} {φ : Phi} {sg : Sg}
theorem reO_rel {o1 : Nat} {o o' : CObj} {qs : List Eqn} {ob : Option Obj} {p : Pl} (e : reO sg o1 o o' = some qs) (hq : eqnsOk V V' qs) (h : @OR V φ ob p o) : @OR V' (phiS φ sg) ob ⟨p.r, p.o + o1, p.z⟩ o' := by
 unfold reO at e
 split at e
 ·rename_i l t r l' t' r'
  obtain ⟨h1, e2⟩ := bif_s e
  clear e
  simp only [Bool.and_eq_true, beq_iff_eq, Bool.or_eq_true] at h1
  obtain ⟨⟨h1, h2⟩, h3⟩ := h1
  have h1 := beq_s h1
  have h2 := beq_s h2
  subst h1; subst h2
  have h3 : r' = false → r = false := fun h => h3.elim (fun e => by rw [h] at e; cases e) (fun e => e.trans h)
  obtain ⟨cs, fz, g1, g2, g3, g4, g5⟩ := h
  have g6 := reL_rel reF_rel e2 hq g4
  have hl : l'.length = l.length := by
   have a1 := @VRs.len V _ _ _ g4
   have a2 := @VRs.len V' _ _ _ g6
   rw [a2, ← a1]
  refine ⟨cs, fz, g1, g2, by simp only [Nat.add_zero]; omega, ?_, fun h => g5 (h3 h)⟩
  simp only [Nat.add_zero]
  rw [hl]; exact g6
 ·rename_i i l t r j t' r'
  obtain ⟨h1, e2⟩ := bif_s e
  clear e
  simp only [Bool.and_eq_true, beq_iff_eq, Bool.or_eq_true] at h1
  obtain ⟨⟨h1, h2⟩, h3⟩ := h1
  have h1 := beq_s h1
  subst h1
  have h3 : r' = false → r = false := fun h => h3.elim (fun e => by rw [h] at e; cases e) (fun e => e.trans h)
  injection e2 with e2; subst e2
  obtain ⟨vs, q1, q2⟩ := hq.1
  obtain ⟨cs, t'', fz, g1, g2, g3, g4, g5, g6⟩ := h
  have g7 := (@pvs_rel V φ _ _ q1).2 _ g5
  have hl := pvs_len q1
  refine ⟨cs, t'', fz, g1, g2, ?_, ?_, ?_, fun hr => ?_⟩
  ·rw [q2]; simp only [List.length_append, List.length_nil, Nat.add_zero]; omega
  ·simp only [Nat.add_zero]
   rw [q2, List.length_append, hl, List.take_add, g4, List.drop_drop, g7]
  ·exact @VRs.nil V' _
  ·obtain ⟨a1, a2⟩ := g6 (h3 hr)
   refine ⟨?_, a2⟩
   rcases h2 with h2 | h2
   ·rw [hr] at h2; cases h2
   ·rw [a1]; exact beq_s h2
 ·rename_i l t r j t' r'
  obtain ⟨h1, e2⟩ := bif_s e
  clear e
  simp only [Bool.and_eq_true, beq_iff_eq, Bool.or_eq_true] at h1
  obtain ⟨⟨h1, h2⟩, h3⟩ := h1
  have h1 := ble_s h1
  have h3 : r' = false → r = false := fun h => h3.elim (fun e => by rw [h] at e; cases e) (fun e => e.trans h)
  injection e2 with e2; subst e2
  have q1 : pvs V.ρ (l.drop o1) = some (V'.lst j) := hq.1
  obtain ⟨cs, fz, g1, g2, g3, g4, g5⟩ := h
  have g7 := (@pvs_rel V φ _ _ q1).2 _ (@VRs.drop V _ _ _ o1 g4)
  have hl := pvs_len q1
  have hl2 : (V'.lst j).length = l.length - o1 := by rw [hl, List.length_drop]
  refine ⟨cs, t, fz, g1, g2, ?_, ?_, ?_, fun hr => ?_⟩
  ·simp only [List.length_nil, Nat.add_zero]; omega
  ·show List.take _ (List.drop (p.o + o1) cs.toList) = _
   rw [hl2, ← g7, List.drop_take, List.drop_drop]
  ·exact @VRs.nil V' _
  ·refine ⟨?_, g5 (h3 hr)⟩
   rcases h2 with h2 | h2
   ·rw [hr] at h2; cases h2
   ·exact beq_s h2
 ·obtain ⟨h1, _⟩ := bif_s e
  exact h
 ·rename_i st pe ts nt ps l df st' pe' ts' nt' ps' l' df'
  obtain ⟨h1, e2⟩ := bif_s e
  clear e
  simp only [Bool.and_eq_true, decide_eq_true_eq] at h1
  obtain ⟨⟨⟨⟨⟨a1, a2⟩, a3⟩, a4⟩, a5⟩, a6⟩ := h1
  have a1 := sameLS_eq a1
  have a3 := beq_s a3
  have a4 := same_ns a4
  have a5 := sameAt_eq a5
  subst a1; subst a2; subst a3; subst a4; subst a5
  rw [Option.map_eq_some_iff] at e2
  obtain ⟨q, e3, rfl⟩ := e2
  obtain ⟨hc, hq⟩ := hq
  have hc : V.cod l = V'.cod l := hc
  obtain ⟨pd, tm, fnid, g1, g2, g3⟩ := h
  unfold isAt at a6
  split at a6
  ·rename_i b o hs
   simp only [Bool.and_eq_true] at a6
   have b1 := beq_s a6.1
   have b2 := beq_s a6.2
   subst b1; subst b2
   refine ⟨⟨pd.r, pd.o + 0, pd.z⟩, tm, fnid, phiS_some hs g1, by rw [← hc]; exact g2, @TR.mk V' _ _ _ _ (@TR.size V _ _ _ _ g3) fun d c' hd => ?_⟩
   obtain ⟨c, q', k1, k2, k3⟩ := reTr_at e3 hq d c' hd
   obtain ⟨v, hv, hr⟩ := @TR.get V _ _ _ _ g3 d c k1
   exact ⟨v, hv, reT_rel k2 k3 hr⟩
  ·cases a6
 ·obtain ⟨h1, _⟩ := bif_s e
  simp only [Bool.and_eq_true, decide_eq_true_eq] at h1
  obtain ⟨⟨⟨a1, a2⟩, a3⟩, a4⟩ := h1
  have a1 := beq_s a1
  have a2 := beq_s a2
  have a4 := same_ns a4
  subst a1; subst a2; subst a3; subst a4
  exact h
 ·rename_i l l'
  obtain ⟨h1, e2⟩ := bif_s e
  clear e
  have h1 := beq_s h1
  subst h1
  split at e2
  ·rename_i x y e3 e4
   injection e2 with e2; subst e2
   obtain ⟨q1, q2⟩ := eqns_app hq
   obtain ⟨es, clock, g1, g2, g3, g4, g5⟩ := h
   have g6 := reL_rel reF_rel e3 q1 g2
   have g7 := reL_rel reF_rel e4 q2 g3
   have hl : l'.length = l.length := by
    have a1 := @VRs.len V _ _ _ g2
    have a2 := @VRs.len V' _ _ _ g6
    simp only [List.length_map] at a1 a2
    omega
   exact ⟨es, clock, g1, g6, g7, by rw [hl]; exact g4, by rw [hl]; exact g5⟩
  ·cases e2
 ·cases e
end
abbrev Objs := List (Option CObj)
def heapGo : CH → Objs → CH
 | h, [] => h
 | h, o :: l => heapGo ⟨h.n + 1, h.m.put h.n o⟩ l
def heapO (l : Objs) : CH := heapGo ⟨0, .e⟩ l
theorem heapGo_get : ∀ (l : Objs) (h : CH), (∀ b, h.n ≤ b → h.get b = none) → (heapGo h l).n = h.n + l.length ∧ ∀ b, (heapGo h l).get b = if b < h.n then h.get b else match l[b - h.n]? with | some o => o | none => none
 | [], h, hn => ⟨rfl, fun b => by
  by_cases hb : b < h.n
  ·rw [if_pos hb]; rfl
  ·rw [if_neg hb]; exact (hn b (by omega)).trans (by simp)⟩
 | o :: l, h, hn => by
  have get : ∀ b, (CH.mk (h.n + 1) (h.m.put h.n o)).get b = if b = h.n then o else h.get b := fun b => by
   unfold CH.get
   letI : Val := ⟨fun _ => 0, fun _ => [], fun _ => (.skip, .skip)⟩
   exact Tr.get_put _ _ _ _
  obtain ⟨h1, h2⟩ := heapGo_get l ⟨h.n + 1, h.m.put h.n o⟩ (fun b hb => by
   have hb : h.n + 1 ≤ b := hb
   rw [get, if_neg (by omega)]; exact hn b (by omega))
  refine ⟨by show (heapGo _ l).n = _; rw [h1]; simp only [List.length_cons]; omega, fun b => ?_⟩
  show (heapGo _ l).get b = _
  rw [h2 b]
  simp only
  by_cases h3 : b < h.n
  ·rw [if_pos (by omega), if_pos h3, get, if_neg (by omega)]
  ·rw [if_neg h3]
   by_cases h4 : b = h.n
   ·subst h4; rw [if_pos (by omega), get, if_pos rfl, Nat.sub_self]; rfl
   ·rw [if_neg (by omega), show b - h.n = (b - (h.n + 1)) + 1 by omega, List.getElem?_cons_succ]
theorem heapO_n (l : Objs) : (heapO l).n = l.length := by
 have := (heapGo_get l ⟨0, .e⟩ (fun b _ => by simp [CH.get, Tr.get])).1
 simpa [heapO] using this
theorem heapO_get (l : Objs) (b : Nat) : (heapO l).get b = match l[b]? with | some o => o | none => none := by
 have := (heapGo_get l ⟨0, .e⟩ (fun b _ => by simp [CH.get, Tr.get])).2 b
 simpa [heapO] using this
theorem heapO_some {l : Objs} {b : Nat} {o : CObj} (h : (heapO l).get b = some o) : l[b]? = some (some o) := by
 rw [heapO_get] at h
 cases e : l[b]? with
 | none => rw [e] at h; cases h
 | some x => rw [e] at h; simp only at h; rw [h]
def reH (sg : Sg) (h : CH) : Nat → Objs → Option (List Eqn)
 | _, [] => some []
 | b, none :: l => reH sg h (b + 1) l
 | b, some o' :: l => match sg b with
  | none => reH sg h (b + 1) l
  | some (b1, o1) => match h.get b1 with
   | some o => match reO sg o1 o o', reH sg h (b + 1) l with
    | some x, some y => some (x ++ y)
    | _, _ => none
   | none => none
theorem reH_at {V V' : Val} {sg : Sg} {h : CH} : ∀ {l : Objs} {b : Nat} {qs : List Eqn}, reH sg h b l = some qs → eqnsOk V V' qs → ∀ j o', l[j]? = some (some o') → ∀ b1 o1, sg (b + j) = some (b1, o1) → ∃ o qs', h.get b1 = some o ∧ reO sg o1 o o' = some qs' ∧ eqnsOk V V' qs'
 | [], _, _, _, _, j, o', e, _, _, _ => by simp at e
 | none :: l, b, qs, e, hq, j, o', ej, b1, o1, es => by
  cases j with
  | zero => simp at ej
  | succ j => exact reH_at (b := b + 1) e hq j o' (by simpa using ej) b1 o1 (by rw [← es]; congr 1; omega)
 | some o0 :: l, b, qs, e, hq, j, o', ej, b1, o1, es => by
  unfold reH at e
  cases j with
  | zero =>
   simp at ej; subst ej
   rw [Nat.add_zero] at es
   simp only [es] at e
   split at e
   ·rename_i o ho
    split at e
    ·rename_i x y h1 h2
     injection e with e; subst e
     exact ⟨o, x, ho, h1, (eqns_app hq).1⟩
    ·cases e
   ·cases e
  | succ j =>
   have ej : l[j]? = some (some o') := by simpa using ej
   have es : sg (b + 1 + j) = some (b1, o1) := by rw [← es]; congr 1; omega
   split at e
   ·exact reH_at e hq j o' ej b1 o1 es
   ·split at e
    ·split at e
     ·rename_i x y h1 h2
      injection e with e; subst e
      exact reH_at h2 (eqns_app hq).2 j o' ej b1 o1 es
     ·cases e
    ·cases e
def apGo (sg : Sg) (b1 : Nat) (r : Bool) : Nat → Objs → Bool
 | _, [] => true
 | b, none :: l => apGo sg b1 r (b + 1) l
 | b, some o :: l => (match sg b with | some (b2, _) => !Nat.beq b1 b2 || (r && o.ro) | none => true) && apGo sg b1 r (b + 1) l
def apOk (sg : Sg) : Nat → Objs → Bool
 | _, [] => true
 | b, none :: l => apOk sg (b + 1) l
 | b, some o :: l => (match sg b with | some (b1, _) => apGo sg b1 o.ro (b + 1) l | none => !o.isGlob) && apOk sg (b + 1) l
theorem apGo_at {sg : Sg} {b1 : Nat} {r : Bool} : ∀ {l : Objs} {b : Nat}, apGo sg b1 r b l = true → ∀ j o, l[j]? = some (some o) → ∀ o2, sg (b + j) = some (b1, o2) → r = true ∧ o.ro = true
 | [], _, _, j, o, e, _, _ => by simp at e
 | none :: l, b, h, j, o, e, o2, es => by
  cases j with
  | zero => simp at e
  | succ j => exact apGo_at (b := b + 1) h j o (by simpa using e) o2 (by rw [← es]; congr 1; omega)
 | some o0 :: l, b, h, j, o, e, o2, es => by
  unfold apGo at h
  rw [Bool.and_eq_true] at h
  cases j with
  | zero =>
   simp at e; subst e
   rw [Nat.add_zero] at es
   have h1 := h.1
   rw [es] at h1
   have hb : Nat.beq b1 b1 = true := by simp
   simp only [hb, Bool.not_true, Bool.false_or, Bool.and_eq_true] at h1
   exact h1
  | succ j => exact apGo_at (b := b + 1) h.2 j o (by simpa using e) o2 (by rw [← es]; congr 1; omega)
theorem apOk_at {sg : Sg} : ∀ {l : Objs} {b : Nat}, apOk sg b l = true → ∀ i j o o', i < j → l[i]? = some (some o) → l[j]? = some (some o') → ∀ b1 x y, sg (b + i) = some (b1, x) → sg (b + j) = some (b1, y) → o.ro = true ∧ o'.ro = true
 | [], _, _, i, j, o, o', _, e, _, _, _, _, _, _ => by simp at e
 | x0 :: l, b, h, i, j, o, o', hij, ei, ej, b1, x, y, si, sj => by
  obtain ⟨j, rfl⟩ : ∃ k, j = k + 1 := ⟨j - 1, by omega⟩
  have ej : l[j]? = some (some o') := by simpa using ej
  have sj : sg (b + 1 + j) = some (b1, y) := by rw [← sj]; congr 1; omega
  cases i with
  | zero =>
   simp at ei; subst ei
   unfold apOk at h
   rw [Bool.and_eq_true] at h
   rw [Nat.add_zero] at si
   have h1 := h.1
   rw [si] at h1
   exact apGo_at h1 j o' ej y sj
  | succ i =>
   have ei : l[i]? = some (some o) := by simpa using ei
   have si : sg (b + 1 + i) = some (b1, x) := by rw [← si]; congr 1; omega
   cases x0 with
   | none => exact apOk_at (b := b + 1) h i j o o' (by omega) ei ej b1 x y si sj
   | some o0 =>
    unfold apOk at h
    rw [Bool.and_eq_true] at h
    exact apOk_at h.2 i j o o' (by omega) ei ej b1 x y si sj
theorem apOk_glob {sg : Sg} : ∀ {l : Objs} {b : Nat}, apOk sg b l = true → ∀ i o, l[i]? = some (some o) → o.isGlob = true → ∃ x, sg (b + i) = some x
 | [], _, _, i, o, e, _ => by simp at e
 | none :: l, b, h, i, o, e, hg => by
  cases i with
  | zero => simp at e
  | succ i =>
   obtain ⟨x, hx⟩ := apOk_glob (b := b + 1) h i o (by simpa using e) hg
   exact ⟨x, by rw [← hx]; congr 1; omega⟩
 | some o0 :: l, b, h, i, o, e, hg => by
  unfold apOk at h
  rw [Bool.and_eq_true] at h
  cases i with
  | zero =>
   simp at e; subst e
   have h1 := h.1
   cases hs : sg b with
   | none => rw [hs, hg] at h1; cases h1
   | some x => exact ⟨x, by first | rfl | exact hs⟩
  | succ i =>
   obtain ⟨x, hx⟩ := apOk_glob (b := b + 1) h.2 i o (by simpa using e) hg
   exact ⟨x, by rw [← hx]; congr 1; omega⟩
theorem reO_glob {sg : Sg} {o1 : Nat} {o o' : CObj} {qs : List Eqn} (e : reO sg o1 o o' = some qs) (hg : o'.isGlob = true) : o.isGlob = true := by
 unfold reO at e
 split at e <;> first
  | (cases hg; done)
  | (cases e; done)
  | rfl
theorem reH_rel {V V' : Val} {φ : Phi} {h : CH} {w : World} {sl : List (Option (Nat × Nat))} {O : Objs} {qs : List Eqn} (hh : @HR V φ h w) (e : reH (sgL sl) h 0 O = some qs) (hq : eqnsOk V V' qs) (ha : apOk (sgL sl) 0 O = true) (hl : sl.length ≤ O.length) : @HR V' (phiS φ (sgL sl)) (heapO O) w := by
 have at0 := fun j o' hj b1 o1 hs => reH_at (V := V) (V' := V') e hq j o' hj b1 o1 (by rw [Nat.zero_add]; exact hs)
 refine @HR.mk V' _ _ _ (fun b o p e1 e2 => ?_) (fun b b' o o' p p' e1 e1' e2 e2' er => ?_) (fun b p e1 => ?_) (fun b hb => ?_) (fun b o e1 hg => by
  obtain ⟨⟨b1, o1⟩, hs⟩ := apOk_glob ha b o (heapO_some e1) hg
  rw [Nat.zero_add] at hs
  obtain ⟨o0, qs', h1, h2, _⟩ := at0 b o (heapO_some e1) b1 o1 hs
  obtain ⟨p, hp⟩ := @HR.gl V _ _ _ hh b1 o0 h1 (reO_glob h2 hg)
  exact ⟨_, phiS_some hs hp⟩)
 ·obtain ⟨b1, o1, q, hs, hp, rfl⟩ := phiS_inv e2
  obtain ⟨o0, qs', h1, h2, h3⟩ := at0 b o (heapO_some e1) b1 o1 hs
  exact reO_rel h2 h3 (@HR.ob V _ _ _ hh b1 o0 q h1 hp)
 ·obtain ⟨b1, o1, q, hs, hp, rfl⟩ := phiS_inv e2
  obtain ⟨b1', o1', q', hs', hp', rfl⟩ := phiS_inv e2'
  obtain ⟨x, _, h1, h2, _⟩ := at0 b o (heapO_some e1) b1 o1 hs
  obtain ⟨x', _, h1', h2', _⟩ := at0 b' o' (heapO_some e1') b1' o1' hs'
  rcases @HR.ap V _ _ _ hh b1 b1' x x' q q' h1 h1' hp hp' er with eb | ⟨r1, r2⟩
  ·subst eb
   rcases Nat.lt_trichotomy b b' with hlt | heq | hlt
   ·exact .inr (apOk_at ha b b' o o' hlt (heapO_some e1) (heapO_some e1') b1 o1 o1' (by rw [Nat.zero_add]; exact hs) (by rw [Nat.zero_add]; exact hs'))
   ·exact .inl heq
   ·obtain ⟨a1, a2⟩ := apOk_at ha b' b o' o hlt (heapO_some e1') (heapO_some e1) b1 o1' o1 (by rw [Nat.zero_add]; exact hs') (by rw [Nat.zero_add]; exact hs)
    exact .inr ⟨a2, a1⟩
  ·exact .inr ⟨reO_ro h2 r1, reO_ro h2' r2⟩
 ·obtain ⟨b1, o1, q, hs, hp, rfl⟩ := phiS_inv e1
  refine ⟨?_, (@HR.lt V _ _ _ hh b1 q hp).2⟩
  rw [heapO_n]
  unfold sgL at hs
  cases hx : sl[b]? with
  | none => rw [hx] at hs; cases hs
  | some x => have := (List.getElem?_eq_some_iff.1 hx).1; omega
 ·rw [heapO_n] at hb
  rw [heapO_get, List.getElem?_eq_none hb]
end Go.Proofs.YthffbfkcmbgghaaGreat.Cm
