/-
  'SonarTurns': devices, their turns, and who blinds whom: the program's functions and the reference's say the same.
-/
import Derived.Test.YtaafodbiigdbaaaGreatZIa
import Derived.Test.YtaafodbiigdbaaaGreatZQ4l
set_option linter.all false
namespace Go.Proofs.YtaafodbiigdbaaaGreat
open Go Go.RowKit

theorem x_limit (a lo hi : Int) : u_LimitError a lo hi = some (limE a lo hi) := by
  unfold u_LimitError limE
  by_cases h1 : a < lo
  · rw [if_pos h1, if_pos (.inl h1)]
  · rw [if_neg h1]
    by_cases h2 : hi < a
    · rw [if_pos h2, if_pos (.inr h2)]
    · rw [if_neg h2, if_neg (by omega)]
theorem x_within (n lo hi : Int) : b_Within n lo hi = some (decide (lo ≤ n ∧ n ≤ hi)) := by
  unfold b_Within
  by_cases h1 : lo ≤ n
  · by_cases h2 : n ≤ hi
    · simp [h1, h2]
    · simp [h1, h2]
  · simp [h1]
theorem x_runF_first : ∀ (l : List Int) (i : Nat), runF (fun _ (e : Int) (_ : Unit) => if e = 0 then (.inr () : Int ⊕ Unit) else .inl e) l i () = if firstE l = 0 then .inr () else .inl (firstE l)
  | [], _ => rfl
  | a :: r, i => by
    unfold runF firstE
    by_cases ha : a = 0
    · simp only [ha, if_true]; exact x_runF_first r (i + 1)
    · simp only [ha, if_false]
theorem x_first (fu : Nat) (l : List Int) (h : l.length < fu) (hl : l.length < 4611686018427387904) : u_FirstError fu l = some (firstE l) := by
  have := loop_run l (fun n i _ => u_FirstError_L1 fu l (l.length : Int) n (i : Int)) (fun _ (e : Int) (_ : Unit) => if e = 0 then (.inr () : Int ⊕ Unit) else .inl e) id
    (fun n s => by rw [u_FirstError_L1, if_neg (by omega)]; rfl)
    (fun n i e s he => by
      obtain ⟨h1, h2, h3⟩ := idx he
      rw [u_FirstError_L1, if_pos h1, if_pos h2, if_pos h1, h3, Option.bind_some]
      by_cases h0 : e = 0
      · simp only [h0, if_true]; rw [wrapS (by omega)]
      · simp only [h0, if_false]; rfl) fu 0 () (by omega) (by omega)
  unfold u_FirstError
  rw [show ((0 : Nat) : Int) = 0 from rfl] at this
  rw [this, List.drop_zero, x_runF_first, Option.bind_some]
  by_cases h0 : firstE l = 0
  · simp [h0]
  · simp [h0]

theorem n_cons {α : Type} {l pre r : List α} {a : α} (h : l = pre ++ a :: r) : ((pre.length : Nat) : Int) < (l.length : Int) ∧ (0 : Int) ≤ ((pre.length : Nat) : Int) ∧ l[0 + (((pre.length : Nat) : Int)).toNat]? = some a ∧ pre.length < l.length := by
  subst h
  rw [Int.toNat_natCast, Nat.zero_add]
  simp
  omega
theorem t_mod {n d : Int} (h : 0 < d) (h' : d ≤ 1000000) : b_Mod n d = some (n % d) := by
  unfold b_Mod
  have e := Int.tmod_eq_emod (a := n) (b := d)
  have h1 := Int.emod_nonneg n (show d ≠ 0 by omega)
  have h2 := Int.emod_lt_of_pos n h
  rw [if_neg (by omega)]
  by_cases c : 0 ≤ n ∨ d ∣ n
  · rw [if_pos c] at e
    rw [if_neg (by omega), e]
    congr 1; omega
  · rw [if_neg c] at e
    rw [if_pos (by omega), e, wrapB (by omega) (by omega)]
    congr 1; omega
theorem cyc {C x y : Int} (hx : 0 ≤ x) (hx' : x < C) (hy : 0 ≤ y) (hy' : y < C) : (x - y) % C = if y ≤ x then x - y else x - y + C := by
  split
  · exact Int.emod_eq_of_lt (by omega) (by omega)
  · rw [← Int.add_emod_right]; exact Int.emod_eq_of_lt (by omega) (by omega)
theorem overlap {C s t a b : Int} (hs : 0 ≤ s ∧ s < C) (ht : 0 ≤ t ∧ t < C) (ha : 0 < a) (hb : 0 < b) :
    (∃ x : Int, 0 ≤ x ∧ x < C ∧ (x - s) % C < a ∧ (x - t) % C < b) ↔ (t - s) % C < a ∨ (s - t) % C < b := by
  constructor
  · rintro ⟨x, h1, h2, h3, h4⟩
    rw [cyc h1 h2 hs.1 hs.2] at h3
    rw [cyc h1 h2 ht.1 ht.2] at h4
    rw [cyc ht.1 ht.2 hs.1 hs.2, cyc hs.1 hs.2 ht.1 ht.2]
    split at h3 <;> split at h4 <;> split <;> split <;> omega
  · rintro (h | h)
    · exact ⟨t, ht.1, ht.2, h, by rw [Int.sub_self, Int.zero_emod]; exact hb⟩
    · exact ⟨s, hs.1, hs.2, by rw [Int.sub_self, Int.zero_emod]; exact ha, h⟩

/-! ### Devices -/
abbrev Dv := Int × Int × Int
def okD (e : Dv) : Prop := (0 ≤ e.1 ∧ e.1 ≤ 20) ∧ (1 ≤ e.2.1 ∧ e.2.1 ≤ 10) ∧ (0 ≤ e.2.2 ∧ e.2.2 ≤ 10)
instance (e : Dv) : Decidable (okD e) := by unfold okD; exact inferInstance
theorem q_dev {fu : Nat} (hf : 10 ≤ fu) (e : Dv) : s_deviceError fu e.1 e.2.1 e.2.2 = some (if okD e then 0 else 2) := by
  unfold s_deviceError
  rw [x_limit, Option.bind_some, x_limit, Option.bind_some, x_limit, Option.bind_some, x_first fu _ (by simp <;> omega) (by simp), Option.bind_some]
  unfold okD
  by_cases c1 : 0 ≤ e.1 ∧ e.1 ≤ 20
  · by_cases c2 : 1 ≤ e.2.1 ∧ e.2.1 ≤ 10
    · by_cases c3 : 0 ≤ e.2.2 ∧ e.2.2 ≤ 10
      · simp [firstE, limE_zero.2 c1, limE_zero.2 c2, limE_zero.2 c3, c1, c2, c3]
      · simp [firstE, limE_zero.2 c1, limE_zero.2 c2, limE_two c3, c3]
    · simp [firstE, limE_zero.2 c1, limE_two c2, c2]
  · simp [firstE, limE_two c1, c1]
/-- The first device that is wrong. -/
def chkD : List Dv → Nat → Int × Int
  | [], _ => (0, 0)
  | e :: r, i => if okD e then chkD r (i + 1) else ((i : Int), 2)
def devV (l : List Dv) : Int × Int := if (l.length : Int) = 0 then (0, 10) else if (5 : Int) < (l.length : Int) then (0, 8) else chkD l 0
theorem q_fb {fu : Nat} (hf : 10 ≤ fu) (l : List Dv) (hl : l.length < 1000) : ∀ (r pre : List Dv) (n : Nat), l = pre ++ r → r.length < n → ∃ o, u_FirstBad_SonarDevice_deviceError_L1 fu l (l.length : Int) n ((pre.length : Nat) : Int) = some o ∧ chkD r pre.length = (match o with | .inl y => (y.1, y.2) | .inr _ => (0, 0))
  | _, _, 0, _, h => by omega
  | [], pre, n + 1, h, _ => by
    subst h
    rw [u_FirstBad_SonarDevice_deviceError_L1, if_neg (by simp)]
    exact ⟨_, rfl, rfl⟩
  | e :: r, pre, n + 1, h, hn => by
    obtain ⟨g1, g2, g3, g4⟩ := n_cons h
    rw [List.length_cons] at hn
    rw [u_FirstBad_SonarDevice_deviceError_L1, if_pos g1, if_pos g2, if_pos g1, g3, Option.bind_some, q_dev hf, Option.bind_some]
    unfold chkD
    by_cases c : okD e
    · simp only [if_pos c, if_true]
      rw [wrapS (by omega), show pre.length + 1 = (pre ++ [e]).length by simp]
      exact q_fb hf l hl r (pre ++ [e]) n (by simp [h]) (by omega)
    · simp only [if_neg c]
      rw [if_neg (by omega)]
      exact ⟨_, rfl, rfl⟩
theorem q_chk {fu : Nat} (hf : 1000 ≤ fu) (l : List Dv) (hl : l.length < 100) : s_CheckDevices fu l = some (devV l) := by
  unfold s_CheckDevices u_CheckList_SonarDevice_deviceError u_FirstBad_SonarDevice_deviceError devV
  by_cases h0 : (l.length : Int) = 0
  · rw [if_pos (by omega), if_pos h0]; rfl
  · rw [if_neg (by omega), if_neg h0]
    by_cases h5 : (5 : Int) < (l.length : Int)
    · rw [if_pos h5, if_pos h5]; rfl
    · rw [if_neg h5, if_neg h5]
      obtain ⟨o, e1, e2⟩ := q_fb (fu := fu) (by omega) l (by omega) l [] fu rfl (by omega)
      rw [List.length_nil] at e2
      rw [List.length_nil, show ((0 : Nat) : Int) = 0 from rfl] at e1
      rw [e1, e2]
      cases o <;> rfl
theorem q_refL (fu : Nat) (l : List Dv) (hl : l.length < 1000) : ∀ (r pre : List Dv) (n : Nat), l = pre ++ r → r.length < n → ∃ o, r4_CheckDevices_L1 fu l n ((pre.length : Nat) : Int) = some o ∧ chkD r pre.length = (match o with | .inl y => (y, 2) | .inr _ => (0, 0))
  | _, _, 0, _, h => by omega
  | [], pre, n + 1, h, _ => by
    subst h
    rw [r4_CheckDevices_L1, if_neg (by simp)]
    exact ⟨_, rfl, rfl⟩
  | e :: r, pre, n + 1, h, hn => by
    obtain ⟨g1, g2, g3, g4⟩ := n_cons h
    rw [List.length_cons] at hn
    obtain ⟨o, i1, i2⟩ := q_refL fu l hl r (pre ++ [e]) n (by simp [h]) (by omega)
    rw [show (pre ++ [e]).length = pre.length + 1 by simp] at i1 i2
    rw [r4_CheckDevices_L1, if_pos g1, if_pos g2, g3, Option.bind_some]
    simp only [x_within, Option.bind_some, decide_eq_true_eq]
    unfold chkD okD
    by_cases c1 : 0 ≤ e.1 ∧ e.1 ≤ 20 <;> by_cases c2 : 1 ≤ e.2.1 ∧ e.2.1 ≤ 10 <;> by_cases c3 : 0 ≤ e.2.2 ∧ e.2.2 ≤ 10 <;> simp only [c1, c2, c3, if_true, if_false, and_self, and_true, and_false, true_and, false_and] <;> first | (rw [wrapS (by omega), i1]; exact ⟨o, rfl, i2⟩) | exact ⟨_, rfl, rfl⟩
theorem q_ref {fu : Nat} (hf : 1000 ≤ fu) (l : List Dv) (hl : l.length < 100) : r4_CheckDevices fu l = some (devV l) := by
  unfold r4_CheckDevices devV
  by_cases h0 : (l.length : Int) = 0
  · rw [if_pos h0, if_pos h0]
  · rw [if_neg h0, if_neg h0]
    by_cases h5 : (5 : Int) < (l.length : Int)
    · rw [if_pos h5, if_pos h5]
    · rw [if_neg h5, if_neg h5]
      obtain ⟨o, e1, e2⟩ := q_refL fu l (by omega) l [] fu rfl (by omega)
      rw [List.length_nil] at e2
      rw [List.length_nil, show ((0 : Nat) : Int) = 0 from rfl] at e1
      rw [e1, e2]
      cases o <;> rfl
theorem chkD_ok : ∀ (l : List Dv) (i : Nat), (chkD l i).2 = 0 → ∀ e ∈ l, okD e
  | [], _, _, e, he => by cases he
  | a :: r, i, h, e, he => by
    unfold chkD at h
    by_cases c : okD a
    · rw [if_pos c] at h
      rcases List.mem_cons.1 he with rfl | he
      · exact c
      · exact chkD_ok r (i + 1) h e he
    · rw [if_neg c] at h; simp at h
theorem devV_ok {l : List Dv} (h : (devV l).2 = 0) : 1 ≤ l.length ∧ l.length ≤ 5 ∧ ∀ e ∈ l, okD e := by
  unfold devV at h
  by_cases h0 : (l.length : Int) = 0
  · rw [if_pos h0] at h; simp at h
  · rw [if_neg h0] at h
    by_cases h5 : (5 : Int) < (l.length : Int)
    · rw [if_pos h5] at h; simp at h
    · rw [if_neg h5] at h
      exact ⟨by omega, by omega, chkD_ok l 0 h⟩

/-! ### Turns -/
def allS (C : Int) (t : List Int) : Bool := t.all fun x => decide (0 ≤ x ∧ x ≤ C - 1)
def turE (l : List Dv) (C : Int) (t : List Int) : Int := if 1 ≤ C ∧ C ≤ 40 then (if (t.length : Int) = (l.length : Int) then (if allS C t = true then 0 else 2) else 10) else 2
theorem q_st (fu : Nat) (C : Int) (hC : 1 ≤ C ∧ C ≤ 40) (t : List Int) (hl : t.length < 1000) : ∀ (r pre : List Int) (n : Nat), t = pre ++ r → r.length < n → ∃ o, u_FirstBad_int_turnsError_1_L1 fu t C (t.length : Int) n ((pre.length : Nat) : Int) = some o ∧ (if allS C r = true then 0 else 2) = (match o with | .inl y => y.2 | .inr _ => 0)
  | _, _, 0, _, h => by omega
  | [], pre, n + 1, h, _ => by
    subst h
    rw [u_FirstBad_int_turnsError_1_L1, if_neg (by simp)]
    exact ⟨_, rfl, rfl⟩
  | e :: r, pre, n + 1, h, hn => by
    obtain ⟨g1, g2, g3, g4⟩ := n_cons h
    rw [List.length_cons] at hn
    obtain ⟨o, i1, i2⟩ := q_st fu C hC t hl r (pre ++ [e]) n (by simp [h]) (by omega)
    rw [show (pre ++ [e]).length = pre.length + 1 by simp] at i1
    rw [u_FirstBad_int_turnsError_1_L1, if_pos g1, if_pos g2, if_pos g1, g3, Option.bind_some]
    unfold s_turnsError_1
    rw [x_limit, Option.bind_some, Option.bind_some, wrapB (by omega) (by omega), wrapS (by omega), i1]
    have ha : allS C (e :: r) = (decide (0 ≤ e ∧ e ≤ C - 1) && allS C r) := rfl
    rw [ha]
    by_cases c : 0 ≤ e ∧ e ≤ C - 1
    · rw [limE_zero.2 c, if_pos rfl, decide_eq_true c, Bool.true_and]
      exact ⟨o, rfl, i2⟩
    · rw [limE_two c, if_neg (by omega), decide_eq_false c, Bool.false_and]
      exact ⟨_, rfl, rfl⟩
theorem q_turns {fu : Nat} (hf : 1000 ≤ fu) (l : List Dv) (hl : l.length < 100) (C : Int) (t : List Int) (ht : t.length < 100) : s_turnsError fu l C t = some (if (devV l).2 = 0 then turE l C t else (devV l).2) := by
  unfold s_turnsError s_devicesError s_cycleError
  rw [q_chk hf l hl, Option.bind_some, Option.bind_some, x_limit, Option.bind_some, Option.bind_some, x_first fu _ (by simp <;> omega) (by simp), Option.bind_some]
  unfold turE
  by_cases h0 : (devV l).2 = 0
  · by_cases h1 : 1 ≤ C ∧ C ≤ 40
    · simp only [firstE, h0, limE_zero.2 h1, if_true, if_pos h1]
      by_cases h2 : (t.length : Int) = (l.length : Int)
      · rw [if_pos h2, if_pos h2]
        obtain ⟨o, e1, e2⟩ := q_st fu C h1 t (by omega) t [] fu rfl (by omega)
        rw [List.length_nil, show ((0 : Nat) : Int) = 0 from rfl] at e1
        unfold u_FirstBad_int_turnsError_1
        rw [e1, e2]
        cases o <;> rfl
      · rw [if_neg h2, if_neg h2]
    · simp only [firstE, h0, limE_two h1, if_true, if_neg h1]
      rfl
  · simp only [firstE, if_neg h0]
theorem q_rst (fu : Nat) (l : List Dv) (C : Int) (hC : 1 ≤ C ∧ C ≤ 40) (t : List Int) (hl : t.length < 1000) (hlt : (t.length : Int) = (l.length : Int)) : ∀ (r pre : List Int) (n : Nat), t = pre ++ r → r.length < n → r4_TurnsErr_L1 fu l t C n ((pre.length : Nat) : Int) = some (if allS C r = true then .inr () else .inl ())
  | _, _, 0, _, h => by omega
  | [], pre, n + 1, h, _ => by
    subst h
    rw [r4_TurnsErr_L1, if_neg (by rw [← hlt]; simp)]
    rfl
  | e :: r, pre, n + 1, h, hn => by
    obtain ⟨g1, g2, g3, g4⟩ := n_cons h
    rw [List.length_cons] at hn
    have i1 := q_rst fu l C hC t hl hlt r (pre ++ [e]) n (by simp [h]) (by omega)
    rw [show (pre ++ [e]).length = pre.length + 1 by simp] at i1
    rw [r4_TurnsErr_L1, if_pos (by omega), if_pos g2, if_pos g1, g3, Option.bind_some, wrapB (by omega) (by omega), x_within, Option.bind_some, wrapS (by omega), i1]
    have ha : allS C (e :: r) = (decide (0 ≤ e ∧ e ≤ C - 1) && allS C r) := rfl
    rw [ha]
    cases decide (0 ≤ e ∧ e ≤ C - 1) <;> simp
theorem q_rturns {fu : Nat} (hf : 1000 ≤ fu) (l : List Dv) (C : Int) (t : List Int) (ht : t.length < 100) : r4_TurnsErr fu l C t = some (turE l C t) := by
  unfold r4_TurnsErr r4_CycleErr turE
  rw [x_within, Option.bind_some]
  by_cases h1 : 1 ≤ C ∧ C ≤ 40
  · rw [decide_eq_true h1, if_pos rfl, Option.bind_some, if_pos rfl, if_pos h1]
    by_cases h2 : (t.length : Int) = (l.length : Int)
    · have e := q_rst fu l C h1 t (by omega) h2 t [] fu rfl (by omega)
      rw [List.length_nil, show ((0 : Nat) : Int) = 0 from rfl] at e
      rw [if_pos h2, if_pos h2, e]
      cases allS C t <;> rfl
    · rw [if_neg h2, if_neg h2]
  · rw [decide_eq_false h1, if_neg (by simp), Option.bind_some, if_neg (by omega), if_neg h1]

/-! ### Who blinds whom -/
theorem q_size (a : Int) (h : -1000 ≤ a ∧ a ≤ 1000) : b_Size a = some (if a < 0 then -a else a) := by
  unfold b_Size
  rw [wrapB (by omega) (by omega)]
  (repeat' split) <;> first | rfl | (exfalso; omega) | (congr 1; omega)
def dst (a b : Dv) : Bool := decide (a.1 - b.1 ≤ 1 ∧ b.1 - a.1 ≤ 1)
theorem q_rdist {a b : Dv} (ha : okD a) (hb : okD b) : r4_Disturb a.1 a.2.1 a.2.2 b.1 b.2.1 b.2.2 = some (dst a b) := by
  unfold r4_Disturb dst
  obtain ⟨a1, _, _⟩ := ha
  obtain ⟨b1, _, _⟩ := hb
  rw [wrapB (by omega) (by omega), q_size _ (by omega), Option.bind_some]
  by_cases c : a.1 - b.1 ≤ 1 ∧ b.1 - a.1 ≤ 1
  · rw [decide_eq_true c, if_pos (by split <;> omega)]
  · rw [decide_eq_false c, if_neg (by split <;> omega)]
theorem q_rin {d : Dv} (hd : okD d) {s x C : Int} (hs : 0 ≤ s ∧ s < C) (hx : 0 ≤ x ∧ x < C) (hC : C ≤ 40) : r4_In d.1 d.2.1 d.2.2 s C x = some (decide ((x - s) % C < d.2.1 + d.2.2)) := by
  obtain ⟨_, d1, d2⟩ := hd
  unfold r4_In r4_Window
  rw [wrapB (by omega) (by omega), t_mod (by omega) (by omega), Option.bind_some, Option.bind_some, wrapB (by omega) (by omega)]
  by_cases c : (x - s) % C < d.2.1 + d.2.2
  · rw [if_pos c, decide_eq_true c]
  · rw [if_neg c, decide_eq_false c]
theorem q_rblL (fu : Nat) {a b : Dv} (ha : okD a) (hb : okD b) {s t C : Int} (hs : 0 ≤ s ∧ s < C) (ht : 0 ≤ t ∧ t < C) (hC : C ≤ 40) : ∀ (m n : Nat) (x : Int), (m : Int) = C - x → 0 ≤ x → m < n → ∃ o, r4_Blind_L1 fu s t C a.1 a.2.1 a.2.2 b.1 b.2.1 b.2.2 n x = some o ∧ (o = .inl () ↔ dst a b = true ∧ ∃ y : Int, x ≤ y ∧ y < C ∧ (y - s) % C < a.2.1 + a.2.2 ∧ (y - t) % C < b.2.1 + b.2.2)
  | _, 0, _, _, _, h => by omega
  | 0, n + 1, x, hm, _, _ => by
    rw [r4_Blind_L1, if_neg (by omega)]
    exact ⟨_, rfl, by simp; intro _ y h1 h2; omega⟩
  | m + 1, n + 1, x, hm, hx, hn => by
    obtain ⟨o, i1, i2⟩ := q_rblL fu ha hb hs ht hC m n (x + 1) (by omega) (by omega) (by omega)
    rw [r4_Blind_L1, if_pos (by omega), q_rdist ha hb, Option.bind_some, wrapB (by omega) (by omega), i1]
    cases hd : dst a b with
    | false =>
      rw [if_neg (by simp)]
      exact ⟨o, rfl, by rw [i2, hd]; simp⟩
    | true =>
      rw [if_pos rfl, q_rin ha hs ⟨hx, by omega⟩ hC, Option.bind_some, q_rin hb ht ⟨hx, by omega⟩ hC, Option.bind_some]
      by_cases c1 : (x - s) % C < a.2.1 + a.2.2
      · rw [decide_eq_true c1, if_pos rfl]
        by_cases c2 : (x - t) % C < b.2.1 + b.2.2
        · rw [decide_eq_true c2, if_pos rfl]
          exact ⟨_, rfl, by simp; exact ⟨x, by omega, by omega, c1, c2⟩⟩
        · rw [decide_eq_false c2, if_neg (by simp)]
          refine ⟨o, rfl, ?_⟩
          rw [i2, hd]
          constructor
          · rintro ⟨_, y, y1, y2, y3, y4⟩; exact ⟨rfl, y, by omega, y2, y3, y4⟩
          · rintro ⟨_, y, y1, y2, y3, y4⟩
            by_cases e : y = x
            · subst e; exact absurd y4 c2
            · exact ⟨rfl, y, by omega, y2, y3, y4⟩
      · rw [decide_eq_false c1, if_neg (by simp)]
        refine ⟨o, rfl, ?_⟩
        rw [i2, hd]
        constructor
        · rintro ⟨_, y, y1, y2, y3, y4⟩; exact ⟨rfl, y, by omega, y2, y3, y4⟩
        · rintro ⟨_, y, y1, y2, y3, y4⟩
          by_cases e : y = x
          · subst e; exact absurd y3 c1
          · exact ⟨rfl, y, by omega, y2, y3, y4⟩
def bli (a b : Dv) (s t C : Int) : Bool := dst a b && (decide ((t - s) % C < a.2.1 + a.2.2) || decide ((s - t) % C < b.2.1 + b.2.2))
theorem q_rbl {fu : Nat} (hf : 1000 ≤ fu) {a b : Dv} (ha : okD a) (hb : okD b) {s t C : Int} (hs : 0 ≤ s ∧ s < C) (ht : 0 ≤ t ∧ t < C) (hC : C ≤ 40) : r4_Blind fu a.1 a.2.1 a.2.2 b.1 b.2.1 b.2.2 s t C = some (bli a b s t C) := by
  obtain ⟨o, e1, e2⟩ := q_rblL fu ha hb hs ht hC C.toNat fu 0 (by omega) (by omega) (by omega)
  unfold r4_Blind bli
  rw [e1, Option.bind_some]
  have k := overlap (C := C) (s := s) (t := t) (a := a.2.1 + a.2.2) (b := b.2.1 + b.2.2) hs ht (by have := ha.2; omega) (by have := hb.2; omega)
  cases o with
  | inl y =>
    obtain ⟨d1, d2⟩ := e2.1 rfl
    have := k.1 d2
    simp [d1, this]
  | inr y =>
    have : ¬ (dst a b = true ∧ ((t - s) % C < a.2.1 + a.2.2 ∨ (s - t) % C < b.2.1 + b.2.2)) := by
      rintro ⟨d1, d2⟩
      exact absurd (e2.2 ⟨d1, k.2 d2⟩) (by simp)
    cases hd : dst a b with
    | false => rfl
    | true =>
      rw [hd] at this
      simp at this
      simp [this]
end Go.Proofs.YtaafodbiigdbaaaGreat
