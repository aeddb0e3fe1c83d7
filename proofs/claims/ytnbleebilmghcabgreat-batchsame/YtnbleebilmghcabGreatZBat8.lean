/- All numbers are in the batches, each once; a map of numbers that the call makes. -/
import Derived.Test.YtnbleebilmghcabGreatZBat7
set_option linter.all false
namespace Go.Proofs.YtnbleebilmghcabGreat
open Go Go.RowKit Go.WideMaps Go.Maps
theorem flat_set : ∀ (B : List (List Nat)) (a x : Nat), a < B.length → (B.set a (B.getD a [] ++ [x])).flatten.Perm (B.flatten ++ [x])
  | [], a, _, h => by simp at h
  | l :: r, 0, x, _ => by
    simp only [List.set_cons_zero, List.getD_cons_zero, List.flatten_cons, List.append_assoc]
    exact List.Perm.append_left l List.perm_append_comm
  | l :: r, a + 1, x, h => by
    have := flat_set r a x (by simpa using h)
    simp only [List.set_cons_succ, List.getD_cons_succ, List.flatten_cons, List.append_assoc]
    exact List.Perm.append_left l this
theorem putB_perm (B : List (List Nat)) (a x : Nat) (h : a ≤ B.length) : (putB B a x).flatten.Perm (B.flatten ++ [x]) := by
  unfold putB
  by_cases e : a = B.length
  · rw [if_pos e, List.flatten_append]; simp
  · rw [if_neg e]; exact flat_set B a x (by omega)
theorem mkB_perm (cl : Nat → Nat → Bool) : ∀ n, (mkB cl n).flatten.Perm (List.range n)
  | 0 => by simp [mkB]
  | n + 1 => by
    have h := putB_perm (mkB cl n) (lev cl n) n (bhd_le _ _ _)
    rw [List.range_succ]
    exact h.trans (List.Perm.append_right [n] (mkB_perm cl n))
end Go.Proofs.YtnbleebilmghcabGreat
