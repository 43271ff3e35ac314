/-
  Walks of chapter 1's reference: the offsets of the links.
-/
import Derived.Test.YtekinmafdhgmpaaZNb
import Derived.Test.YtekinmafdhgmpaaQL
namespace Go.Proofs.Ytekinmafdhgmpaa
open Go.RowKit Go.Shelf
attribute [local go_sem] monoUpon_value monoUpon_skip monoUpon_enter

theorem offs_at (l : Ln) (c : List Int) (hc : c.length = l.ks.length) (k : Nat) (hk : k < l.ks.length) (hk2 : k < (tens l c).length) :
    (offs l c)[k]? = some (low (l.ks[k].1 * ((tens l c)[k]).1) ((tens l c)[k]).2) := by
  have h := pullsF_at l.x l.x l.z l.ks (still c) (by simp [still, hc]) k hk
  obtain ⟨p, hp, hph⟩ : ∃ p : Pl, (pulls l (still c))[k]? = some p ∧ p.h = l.ks[k].1 := ⟨_, h, rfl⟩
  have e : (tens l c)[k]? = some (p.lo, p.z) := by
    rw [← tensions_eq, tensions, List.getElem?_map, hp]; rfl
  rw [List.getElem?_eq_getElem hk2] at e
  have e' := Option.some.inj e
  rw [offs, List.getElem?_map, hp, e', ← hph]
  rfl
theorem offs_len (l : Ln) (c : List Int) (hc : c.length = l.ks.length) : (offs l c).length = l.ks.length := by
  rw [offs, List.length_map]; exact pullsF_len _ _ _ _ _ (by simp [still, hc])
end Go.Proofs.Ytekinmafdhgmpaa
