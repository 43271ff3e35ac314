/-
  Walks of chapter 1's reference: rounding, divisors, the offset of a link.
-/
import Derived.Test.YtghglgaimhfedaaZNa
import Derived.Test.YtghglgaimhfedaaQN
namespace Go.Proofs.Ytghglgaimhfedaa
open Go.RowKit Go.Shelf
attribute [local go_sem] monoUpon_value monoUpon_skip monoUpon_enter

theorem slackF_any (zs : List Int) (i : Nat) : (zs.any (fun z => decide (z ≤ 0)) = true) ↔ 0 < (slackF zs i).length := by
  induction zs generalizing i with
  | nil => simp [slackF]
  | cons z r ih =>
    by_cases h : z ≤ 0
    · simp [slackF, h]
    · simp only [slackF, h, if_false, List.any_cons, decide_false, Bool.false_or]
      exact ih (i + 1)
theorem slackErr_len (l : Ln) : slackErr l = if 0 < ((slack l).length : Int) then 21 else 0 := by
  unfold slackErr slack
  by_cases h : (zs l).any (fun z => decide (z ≤ 0)) = true
  · have h2 := (slackF_any (zs l) 0).1 h
    rw [if_pos h, if_pos (by omega)]
  · have h2 : ¬ 0 < (slackF (zs l) 0).length := fun hc => h ((slackF_any (zs l) 0).2 hc)
    rw [if_neg h, if_neg (by omega)]
set_option maxHeartbeats 1000000 in
theorem rSlackErr_any (v : Value) (l : Ln) (w : World) (hs : Sl e3 3 w v l.ks) (hl : LnOk l) :
    Calls Try.prog 46 #[.agg #[.int .i64 l.x, .int .i64 l.z, v]] w fun e w' => e = .returned (.int .i64 (slackErr l)) ∧ Below w.heap.size w w' := by
  have HR : Hid (Calls Try.prog 25 #[.agg #[.int .i64 l.x, .int .i64 l.z, v]] (w.alloc (.cells #[.int .i64 l.x, .int .i64 l.z, v] 26)) fun e w' => ∃ r, e = .returned r ∧ Sl e1 1 w' r (slack l) ∧ Below (w.alloc (.cells #[.int .i64 l.x, .int .i64 l.z, v] 26)).heap.size (w.alloc (.cells #[.int .i64 l.x, .int .i64 l.z, v] 26)) w') :=
    (Slack_any v l _ (hs.alloc _) hl).mono fun e w' ⟨r, a, b, c⟩ => ⟨r, a, b.sl e1_len, c⟩
  have hE := slackErr_len l
  obtain ⟨A, c, rfl, hcap⟩ := hs.form
  generalize slackErr l = se at *
  generalize slack l = sl at *
  clear hs hl
  by_cases h : 0 < (sl.length : Int)
  · rw [if_pos h] at hE
    have E := Lib.hid hE
    clear hE
    go_enter Try.func46, Try.ntmps46
    go_wp2_with (go_at_call 25; refine HR.out.mono ?_; rintro e w1 ⟨r, rfl, hr, hb1⟩; obtain ⟨Ar, cr, rfl, hcr⟩ := hr.form; clear hr)
    go_ret
    exact ⟨ret_int E.out.symm, below_tr (below_alloc1 _ _) hb1⟩
  · rw [if_neg h] at hE
    have E := Lib.hid hE
    clear hE
    go_enter Try.func46, Try.ntmps46
    go_wp2_with (go_at_call 25; refine HR.out.mono ?_; rintro e w1 ⟨r, rfl, hr, hb1⟩; obtain ⟨Ar, cr, rfl, hcr⟩ := hr.form; clear hr)
    go_ret
    exact ⟨ret_int E.out.symm, below_tr (below_alloc1 _ _) hb1⟩
theorem Size_any (n : Int) (w : World) (hn : -9000000000000000000 ≤ n ∧ n ≤ 9000000000000000000) :
    Calls Try.prog 82 #[.int .i64 n] w fun e w' => e = .returned (.int .i64 (n.natAbs : Nat)) ∧ w = w' := by
  have hw1 : IntKind.i64.wrap (-n) = -n := IntWalk.i64_in _ (by omega)
  have E : Hid (max n (-n) = ((n.natAbs : Nat) : Int)) := by unfold Hid; omega
  go_enter Try.func82, Try.ntmps82
  go_wp2_with fail
  all_goals
    go_ret
    exact ⟨ret_int (by have := E.out; omega), rfl⟩
set_option maxHeartbeats 1000000 in
theorem Gcd_any (a b : Int) (w : World) (ha : -4000000000000000000 ≤ a ∧ a ≤ 4000000000000000000) (hb : -4000000000000000000 ≤ b ∧ b ≤ 4000000000000000000) :
    Calls Try.prog 149 #[.int .i64 a, .int .i64 b] w fun e w' => e = .returned (.int .i64 (Int.gcd a b : Nat)) ∧ Below w.heap.size w w' := by
  have HAB := Lib.hid (And.intro ha hb)
  clear ha hb
  go_enter Try.func149, Try.ntmps149
  go_wp2_with fail
  go_loopg [0, 1] b.natAbs (fun g u z wr' => ∃ p q : Int, u = .int .i64 p ∧ z = .int .i64 q ∧ g = q.natAbs ∧ Nat.gcd p.natAbs q.natAbs = Int.gcd a b ∧ (-4000000000000000000 ≤ p ∧ p ≤ 4000000000000000000) ∧ (-4000000000000000000 ≤ q ∧ q ≤ 4000000000000000000) ∧ Below w.heap.size w wr')
  case atStart => exact ⟨a, b, rfl, rfl, rfl, rfl, HAB.out.1, HAB.out.2, Below.refl _ _⟩
  case round =>
    obtain ⟨p, q, rfl, rfl, rfl, hg, hp, hq, hb'⟩ := hrel
    have HB' := Lib.hid hb'
    have HG' := Lib.hid hg
    clear hb' hg
    by_cases hq0 : q = 0
    · have hqb : (q != 0) = false := by rw [bne_eq_false_iff_eq]; exact hq0
      have HF := Lib.hid (show p.natAbs = Int.gcd a b by have := HG'.out; rw [hq0] at this; simpa using this)
      have HSZ := Lib.hid (fun w => Size_any p w ⟨by omega, by omega⟩)
      clear hq0
      go_wp2_with (go_at_call 82; refine (HSZ.out _).mono ?_; rintro e w' ⟨rfl, rfl⟩)
      go_ret
      exact ⟨ret_int (by rw [HF.out]), HB'.out⟩
    · have hqb : (q != 0) = true := by rw [bne_iff_ne]; exact hq0
      have hqb' : (q == 0) = false := by rw [beq_eq_false_iff_ne]; exact hq0
      have hlt' := tmod_bd p q hq0
      have hw1 : IntKind.i64.wrap (p.tmod q) = p.tmod q := IntWalk.i64_in _ (by omega)
      have HM := Lib.hid hlt'
      have hbd : -4000000000000000000 ≤ p.tmod q ∧ p.tmod q ≤ 4000000000000000000 := by omega
      have HBD := Lib.hid hbd
      clear hlt' hbd
      go_wp2_with fail
      go_quiet (fail)
      go_wp2_with fail
      go_roundg (p.tmod q).natAbs
      case measure => exact HM.out
      case rel => exact ⟨q, p.tmod q, rfl, rfl, rfl, (gcd_tmod p q).trans HG'.out, hq, HBD.out, ⟨HB'.out.os, HB'.out.tape, HB'.out.output, HB'.out.size, HB'.out.block⟩⟩
theorem Floor_any (n m : Int) (w : World) (hm : 0 < m) (hm' : m ≤ 1000000000000000000) (hn : -1000000000000000000 ≤ n ∧ n ≤ 1000000000000000000) :
    Calls Try.prog 113 #[.int .i64 n, .int .i64 m] w fun e w' => e = .returned (.int .i64 (n / m)) ∧ w = w' := by
  have E := Lib.hid (floor_math n m hm)
  have hb := tdiv_bd n m _ hm hn
  obtain ⟨b1, b2⟩ := hb
  have hz : (m == 0) = false := by rw [beq_eq_false_iff_ne]; omega
  have hr := Int.natAbs_tmod n m
  have hr2 : (n.tmod m).natAbs < m.natAbs := tmod_bd n m (by omega)
  have hw3 : IntKind.i64.wrap (n.tmod m) = n.tmod m := IntWalk.i64_in _ (by omega)
  by_cases h : n.tmod m < 0
  · rw [if_pos h] at E
    have hw1 : IntKind.i64.wrap (n.tdiv m) = n.tdiv m := IntWalk.i64_in _ (by omega)
    have hw2 : IntKind.i64.wrap (n.tdiv m - 1) = n.tdiv m - 1 := IntWalk.i64_in _ (by omega)
    go_enter Try.func113, Try.ntmps113
    go_wp2
    go_ret
    exact ⟨ret_int E.out, rfl⟩
  · rw [if_neg h] at E
    have hw1 : IntKind.i64.wrap (n.tdiv m) = n.tdiv m := IntWalk.i64_in _ (by omega)
    go_enter Try.func113, Try.ntmps113
    go_wp2
    go_ret
    exact ⟨ret_int E.out, rfl⟩
theorem Ceil_any (n m : Int) (w : World) (hm : 0 < m) (hm' : m ≤ 1000000000000000000) (hn : -1000000000000000000 ≤ n ∧ n ≤ 1000000000000000000) :
    Calls Try.prog 114 #[.int .i64 n, .int .i64 m] w fun e w' => e = .returned (.int .i64 (-(-n / m))) ∧ w = w' := by
  have HF := Lib.hid (fun w => Floor_any (-n) m w hm hm' ⟨by omega, by omega⟩)
  have hb := tdiv_bd (-n) m 1000000000000000000 hm ⟨by omega, by omega⟩
  have e := floor_math (-n) m hm
  have hq : -1000000000000000001 ≤ -n / m ∧ -n / m ≤ 1000000000000000000 := by rw [← e]; split <;> omega
  obtain ⟨b1, b2⟩ := hq
  have hw0 : IntKind.i64.wrap (-n) = -n := IntWalk.i64_in _ (by omega)
  clear hb e
  generalize hq : -n / m = q at *
  have hw1 : IntKind.i64.wrap (-q) = -q := IntWalk.i64_in _ (by omega)
  go_enter Try.func114, Try.ntmps114
  go_wp2_with (go_at_call 113; refine (HF.out _).mono ?_; rintro e w' ⟨rfl, rfl⟩)
  go_ret
  exact ⟨rfl, rfl⟩
set_option maxRecDepth 100000 in
set_option maxHeartbeats 1000000 in
theorem rLowest_any (n d : Int) (w : World) (hd : 0 < d) (hd' : d ≤ 2000000000000000000) (hn : -2000000000000000000 ≤ n ∧ n ≤ 2000000000000000000) :
    Calls Try.prog 111 #[.int .i64 n, .int .i64 d] w fun e w' => e = .returned (.agg #[.int .i64 (low n d).1, .int .i64 (low n d).2]) ∧ Below w.heap.size w w' := by
  have hgp : 0 < Int.gcd n d := Int.gcd_pos_of_ne_zero_right n (by omega)
  have hgn : (Int.gcd n d : Int) ∣ n := Int.gcd_dvd_left n d
  have hgd : (Int.gcd n d : Int) ∣ d := Int.gcd_dvd_right n d
  have HE := Lib.hid (And.intro (Int.tdiv_eq_ediv_of_dvd hgn) (Int.tdiv_eq_ediv_of_dvd hgd))
  have hgp' : (0 : Int) < (Int.gcd n d : Nat) := by omega
  have E : Hid (low n d = (n / (Int.gcd n d : Int), d / (Int.gcd n d : Int))) := (rfl : low n d = _)
  have HDv := Lib.hid (fun w => Gcd_any n d w ⟨by omega, by omega⟩ ⟨by omega, by omega⟩)
  have b1 := tdiv_bd n (Int.gcd n d : Int) _ (by omega) hn
  have b2 := tdiv_bd d (Int.gcd n d : Int) 2000000000000000000 (by omega) (by omega)
  obtain ⟨b1, b1'⟩ := b1
  obtain ⟨b2, b2'⟩ := b2
  clear hgp
  generalize ((Int.gcd n d : Nat) : Int) = G at *
  have hq : G ≠ 0 := by omega
  have hqb' : (G == 0) = false := by rw [beq_eq_false_iff_ne]; exact hq
  have hw1 : IntKind.i64.wrap (n.tdiv G) = n.tdiv G := IntWalk.i64_in _ (by omega)
  have hw2 : IntKind.i64.wrap (d.tdiv G) = d.tdiv G := IntWalk.i64_in _ (by omega)
  clear hgn hgd b1 b1' b2 b2' hn
  go_enter Try.func111, Try.ntmps111
  go_wp2_with (go_at_call 149; refine (HDv.out _).mono ?_; rintro e w1 ⟨rfl, hb1⟩)
  have A0 := Lib.hid ((At.new w #[.int .i64 0, .int .i64 0] 75 0 _ rfl).below hb1)
  have A1 := Lib.hid ((At.new w #[.int .i64 0, .int .i64 0] 75 1 _ rfl).below hb1)
  obtain ⟨c0, f0⟩ := A0.out
  obtain ⟨c1, f1⟩ := A1.out
  have HB : Hid (Below w.heap.size w w1) := below_tr (below_alloc1 _ _) hb1
  clear hb1
  go_still_tail 7, (by kernel_rfl)
  go_wp2_with fail
  obtain ⟨W5, hW5⟩ : ∃ W5, W5 = ((w1.setCell ⟨w.heap.size, 0, none⟩ (.int .i64 (n.tdiv G))).setCell ⟨w.heap.size, 1, none⟩ (.int .i64 (d.tdiv G))).drew := ⟨_, rfl⟩
  rw [← hW5]
  obtain ⟨s0, _⟩ : At W5 ⟨w.heap.size, 0, none⟩ (.int .i64 (n.tdiv G)) := by rw [hW5]; exact ((A0.out.set).other (by simp)).drew
  obtain ⟨s1, _⟩ : At W5 ⟨w.heap.size, 1, none⟩ (.int .i64 (d.tdiv G)) := by rw [hW5]; exact ((A1.out.other (by simp)).set).drew
  have HB5 : Below w.heap.size w W5 := by rw [hW5]; exact (below_set (below_set HB.out (by simp) _) (by simp) _).drew
  clear hW5
  (try simp only [Exit.inBlock, Exit.then])
  refine bodyPost_ret (v := .agg #[.int .i64 (n.tdiv G), .int .i64 (d.tdiv G)]) ?_ rfl ⟨by rw [HE.out.1, HE.out.2, E.out], HB5⟩
  rw [results_cell rfl]
  go_simp
end Go.Proofs.Ytghglgaimhfedaa
