/-
  Walks of the rules: the generic function that checks how many items a list has, and then each item, at each of its instances.
-/
import Derived.Test.YtghglgaimhfedaaQC
namespace Go.Proofs.Ytghglgaimhfedaa
open Go.RowKit

def clErr {α : Type} (lo hi : Int) (err : α → Int) (xs : List α) : Int × Int := if (xs.length : Int) < lo then (0, 10) else if hi < (xs.length : Int) then (0, 8) else fb err xs 0
theorem cl_pair {q : Int × Int} {a b : Int} (h : q = (a, b)) : Ending.returned (.tuple #[.int .i64 a, .int .i64 b]) = .returned (.tuple #[.int .i64 q.1, .int .i64 q.2]) := by rw [h]
set_option maxHeartbeats 1000000 in
theorem cl2_any (K : FuncId) (caps : Array Value) (eg : ∀ (args : Array Value) (w : World), (callFunc K args).run Try.prog w = .ok (.enter K args) w) (err : Int × Int → Int) (lo hi : Int) (v : Value) (xs : List (Int × Int)) (w : World) (hs : Sl e2 2 w v xs) (hn : xs.length ≤ 1000)
    (Inv : World → Prop) (hInv : ∀ W W', Inv W → Below W.heap.size W W' → Inv W') (h0 : Inv w)
    (hcl : ∀ x ∈ xs, ∀ W, Inv W → Calls Try.prog K (#[.agg #[.int .i64 x.1, .int .i64 x.2]] ++ caps) W fun e W' => e = .returned (.int .i64 (err x)) ∧ Below W.heap.size W W') :
    Calls Try.prog 158 #[v, .int .i64 lo, .int .i64 hi, .func (.func K) #[] caps] w fun e w' => e = .returned (.tuple #[.int .i64 (clErr lo hi err xs).1, .int .i64 (clErr lo hi err xs).2]) ∧ Below w.heap.size w w' := by
  have HF := Lib.hid (fb2_any K caps eg err v xs w hs hn Inv hInv h0 hcl)
  obtain ⟨A, c, rfl, hcap⟩ := hs.form
  clear hcl hInv h0 eg hs
  by_cases h1 : (xs.length : Int) < lo
  · have E : Hid (clErr lo hi err xs = (0, 10)) := by unfold Hid clErr; rw [if_pos h1]
    go_enter Try.func158, Try.ntmps158
    go_wp2_with fail
    go_ret2
    exact ⟨cl_pair E.out, Below.refl _ _⟩
  · have h1' : decide ((xs.length : Int) < lo) = false := decide_eq_false h1
    by_cases h2 : hi < (xs.length : Int)
    · have E : Hid (clErr lo hi err xs = (0, 8)) := by unfold Hid clErr; rw [if_neg h1, if_pos h2]
      go_enter Try.func158, Try.ntmps158
      go_wp2_with fail
      go_ret2
      exact ⟨cl_pair E.out, Below.refl _ _⟩
    · have E : Hid (clErr lo hi err xs = ((fb err xs 0).1, (fb err xs 0).2)) := by unfold Hid clErr; rw [if_neg h1, if_neg h2]
      have h2' : decide (hi < (xs.length : Int)) = false := decide_eq_false h2
      generalize (fb err xs 0).1 = r1 at *
      generalize (fb err xs 0).2 = r2 at *
      go_enter Try.func158, Try.ntmps158
      go_wp2_with (go_at_call 131; refine HF.out.mono ?_; rintro e w1 ⟨rfl, hb1⟩)
      go_ret2
      exact ⟨cl_pair E.out, hb1⟩
set_option maxHeartbeats 1000000 in
theorem cll_any (K : FuncId) (caps : Array Value) (eg : ∀ (args : Array Value) (w : World), (callFunc K args).run Try.prog w = .ok (.enter K args) w) (err : Int × Int × Int → Int) (lo hi : Int) (v : Value) (xs : List (Int × Int × Int)) (w : World) (hs : Sl e3 3 w v xs) (hn : xs.length ≤ 1000)
    (Inv : World → Prop) (hInv : ∀ W W', Inv W → Below W.heap.size W W' → Inv W') (h0 : Inv w)
    (hcl : ∀ x ∈ xs, ∀ W, Inv W → Calls Try.prog K (#[.agg #[.int .i64 x.1, .int .i64 x.2.1, .int .i64 x.2.2]] ++ caps) W fun e W' => e = .returned (.int .i64 (err x)) ∧ Below W.heap.size W W') :
    Calls Try.prog 88 #[v, .int .i64 lo, .int .i64 hi, .func (.func K) #[] caps] w fun e w' => e = .returned (.tuple #[.int .i64 (clErr lo hi err xs).1, .int .i64 (clErr lo hi err xs).2]) ∧ Below w.heap.size w w' := by
  have HF := Lib.hid (fbl_any K caps eg err v xs w hs hn Inv hInv h0 hcl)
  obtain ⟨A, c, rfl, hcap⟩ := hs.form
  clear hcl hInv h0 eg hs
  by_cases h1 : (xs.length : Int) < lo
  · have E : Hid (clErr lo hi err xs = (0, 10)) := by unfold Hid clErr; rw [if_pos h1]
    go_enter Try.func88, Try.ntmps88
    go_wp2_with fail
    go_ret2
    exact ⟨cl_pair E.out, Below.refl _ _⟩
  · have h1' : decide ((xs.length : Int) < lo) = false := decide_eq_false h1
    by_cases h2 : hi < (xs.length : Int)
    · have E : Hid (clErr lo hi err xs = (0, 8)) := by unfold Hid clErr; rw [if_neg h1, if_pos h2]
      go_enter Try.func88, Try.ntmps88
      go_wp2_with fail
      go_ret2
      exact ⟨cl_pair E.out, Below.refl _ _⟩
    · have E : Hid (clErr lo hi err xs = ((fb err xs 0).1, (fb err xs 0).2)) := by unfold Hid clErr; rw [if_neg h1, if_neg h2]
      have h2' : decide (hi < (xs.length : Int)) = false := decide_eq_false h2
      generalize (fb err xs 0).1 = r1 at *
      generalize (fb err xs 0).2 = r2 at *
      go_enter Try.func88, Try.ntmps88
      go_wp2_with (go_at_call 137; refine HF.out.mono ?_; rintro e w1 ⟨rfl, hb1⟩)
      go_ret2
      exact ⟨cl_pair E.out, hb1⟩
end Go.Proofs.Ytghglgaimhfedaa
