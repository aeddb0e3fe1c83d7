/- The batches as the document makes them: each system's one more than the greatest of those ahead that it clashes with. -/
import Derived.Test.YtnbleebilmghcabBBatchMath
set_option linter.unnecessarySimpa false
set_option linter.unusedVariables false
set_option linter.unusedSimpArgs false
namespace Go.Proofs.Ytnbleebilmghcab

def atTo (cl : Nat → Nat → Bool) (i : Nat) : Nat → Nat
  | 0 => 0
  | j + 1 => if cl j i = true ∧ atTo cl i j < lev cl j + 1 then lev cl j + 1 else atTo cl i j
theorem atTo_le (cl : Nat → Nat → Bool) (i : Nat) : ∀ j, j ≤ i → atTo cl i j ≤ lev cl i
  | 0, _ => Nat.zero_le _
  | j + 1, h => by
    unfold atTo
    split
    · rename_i hc; have := lev_lt cl i j (by omega) hc.1; omega
    · exact atTo_le cl i j (by omega)
theorem atTo_ge (cl : Nat → Nat → Bool) (i : Nat) : ∀ j k, k < j → cl k i = true → lev cl k + 1 ≤ atTo cl i j
  | 0, k, h, _ => by omega
  | j + 1, k, h, hc => by
    unfold atTo
    by_cases e : k = j
    · subst e
      split
      · omega
      · rename_i h2
        have : ¬ atTo cl i k < lev cl k + 1 := fun h3 => h2 ⟨hc, h3⟩
        omega
    · have := atTo_ge cl i j k (by omega) hc
      split
      · rename_i h2; omega
      · exact this
theorem atTo_all (cl : Nat → Nat → Bool) (i : Nat) : atTo cl i i = lev cl i := by
  have h1 := atTo_le cl i i (Nat.le_refl _)
  rcases Nat.eq_zero_or_pos (lev cl i) with h | h
  · omega
  · obtain ⟨j, hj, hc, e⟩ := lev_held cl i h
    have := atTo_ge cl i i j hj hc
    omega
def nTo (cl : Nat → Nat → Bool) : Nat → Nat
  | 0 => 0
  | i + 1 => if nTo cl i < lev cl i + 1 then lev cl i + 1 else nTo cl i
theorem lev_le (cl : Nat → Nat → Bool) (n : Nat) : lev cl n ≤ (mkB cl n).length := bhd_le _ _ _
theorem mkB_nTo (cl : Nat → Nat → Bool) : ∀ n, (mkB cl n).length = nTo cl n
  | 0 => rfl
  | n + 1 => by
    have h : mkB cl (n + 1) = putB (mkB cl n) (lev cl n) n := rfl
    have := lev_le cl n
    rw [h, putB_len]
    unfold nTo
    rw [← mkB_nTo cl n]
    split <;> split <;> omega
theorem mkB_get (cl : Nat → Nat → Bool) : ∀ n k, (mkB cl n).getD k [] = (List.range n).filter (fun i => lev cl i == k)
  | 0, k => by simp [mkB]
  | n + 1, k => by
    have h : mkB cl (n + 1) = putB (mkB cl n) (lev cl n) n := rfl
    rw [h, putB_get _ _ _ _ (lev_le cl n), List.range_succ, List.filter_append, mkB_get cl n k]
    by_cases e : k = lev cl n
    · rw [if_pos e]; simp [e]
    · rw [if_neg e]; simp [Ne.symm e]
/-- The lists, the systems below j laid. -/
def outTo (cl : Nat → Nat → Bool) (m j : Nat) : List (List Nat) := (List.range m).map fun k => (List.range j).filter (fun i => lev cl i == k)
theorem outTo_len (cl : Nat → Nat → Bool) (m j : Nat) : (outTo cl m j).length = m := by simp [outTo]
theorem outTo_get (cl : Nat → Nat → Bool) (m j k : Nat) (hk : k < m) : (outTo cl m j).getD k [] = (List.range j).filter (fun i => lev cl i == k) := by
  unfold outTo
  rw [List.getD_eq_getElem?_getD, List.getElem?_eq_getElem (by simpa using hk)]; simp
theorem outTo_zero (cl : Nat → Nat → Bool) (m : Nat) : outTo cl m 0 = List.replicate m [] := by
  unfold outTo
  refine List.ext_getElem (by simp) fun i h1 h2 => by simp
theorem outTo_succ (cl : Nat → Nat → Bool) (m j : Nat) (hj : lev cl j < m) : outTo cl m (j + 1) = (outTo cl m j).set (lev cl j) ((outTo cl m j).getD (lev cl j) [] ++ [j]) := by
  rw [outTo_get _ _ _ _ hj]
  refine List.ext_getElem (by simp [outTo]) fun k h1 h2 => ?_
  rw [List.getElem_set]
  simp only [outTo, List.getElem_map, List.getElem_range, List.range_succ, List.filter_append]
  by_cases e : lev cl j = k
  · rw [if_pos e]; simp [e]
  · rw [if_neg e]; simp [e]
theorem outTo_all (cl : Nat → Nat → Bool) (n : Nat) : outTo cl (nTo cl n) n = mkB cl n := by
  refine List.ext_getElem (by rw [outTo_len, mkB_nTo]) fun k h1 h2 => ?_
  have h3 : k < nTo cl n := by rw [outTo_len] at h1; exact h1
  have e1 := outTo_get cl (nTo cl n) n k h3
  have e2 := mkB_get cl n k
  rw [List.getD_eq_getElem?_getD, List.getElem?_eq_getElem h1, Option.getD_some] at e1
  rw [List.getD_eq_getElem?_getD, List.getElem?_eq_getElem h2, Option.getD_some] at e2
  rw [e1, e2]
theorem nTo_mono (cl : Nat → Nat → Bool) (i : Nat) : ∀ n, i < n → lev cl i < nTo cl n
  | 0, h => by omega
  | n + 1, h => by
    unfold nTo
    by_cases e : i = n
    · subst e; split <;> omega
    · have := nTo_mono cl i n (by omega)
      split <;> omega
theorem nTo_le (cl : Nat → Nat → Bool) (n : Nat) : nTo cl n ≤ n := by rw [← mkB_nTo]; exact mkB_len cl n
end Go.Proofs.Ytnbleebilmghcab
