/- Batches as lists of numbers: nothing of the program is in it. -/
set_option linter.unnecessarySimpa false
set_option linter.unusedVariables false
set_option linter.unusedSimpArgs false
namespace Go.Proofs.Ytnbleebilmghcab

/-- The first batch behind all those, of the first a, in which one stands that p holds of. -/
def bhd (p : Nat → Bool) (B : List (List Nat)) : Nat → Nat
  | 0 => 0
  | a + 1 => if (B.getD a []).any p then a + 1 else bhd p B a
def putB (B : List (List Nat)) (a x : Nat) : List (List Nat) := if a = B.length then B ++ [[x]] else B.set a (B.getD a [] ++ [x])
def mkB (cl : Nat → Nat → Bool) : Nat → List (List Nat)
  | 0 => []
  | n + 1 => putB (mkB cl n) (bhd (fun o => cl o n) (mkB cl n) (mkB cl n).length) n
/-- The batch of i. -/
def lev (cl : Nat → Nat → Bool) (i : Nat) : Nat := bhd (fun o => cl o i) (mkB cl i) (mkB cl i).length

theorem bhd_le (p : Nat → Bool) (B : List (List Nat)) : ∀ a, bhd p B a ≤ a
  | 0 => Nat.le_refl _
  | a + 1 => by unfold bhd; split; exact Nat.le_refl _; exact Nat.le_trans (bhd_le p B a) (Nat.le_succ _)
theorem bhd_none (p : Nat → Bool) (B : List (List Nat)) : ∀ a k, bhd p B a ≤ k → k < a → (B.getD k []).any p = false
  | 0, _, _, h => by omega
  | a + 1, k, h1, h2 => by
    unfold bhd at h1
    cases h : (B.getD a []).any p
    · rw [h] at h1
      simp only [Bool.false_eq_true, if_false] at h1
      by_cases e : k = a
      · subst e; exact h
      · exact bhd_none p B a k h1 (by omega)
    · rw [h] at h1
      simp only [if_true] at h1
      omega
theorem bhd_some (p : Nat → Bool) (B : List (List Nat)) : ∀ a, 0 < bhd p B a → (B.getD (bhd p B a - 1) []).any p = true
  | 0, h => by simp [bhd] at h
  | a + 1, h => by
    unfold bhd at h ⊢
    cases e : (B.getD a []).any p
    · rw [e] at h
      simp only [Bool.false_eq_true, if_false] at h ⊢
      exact bhd_some p B a h
    · simp only [if_true]; simpa using e
/-- What the batches are. -/
structure BInv (cl : Nat → Nat → Bool) (n : Nat) : Prop where
  lt : ∀ i, i < n → lev cl i < (mkB cl n).length
  at_ : ∀ k, k < (mkB cl n).length → (mkB cl n).getD k [] = (List.range n).filter (fun i => lev cl i == k)
  all : ∀ k, k < (mkB cl n).length → ∃ i, i < n ∧ lev cl i = k
theorem putB_len (B : List (List Nat)) (a x : Nat) : (putB B a x).length = if a = B.length then B.length + 1 else B.length := by unfold putB; split <;> simp
theorem putB_get (B : List (List Nat)) (a x k : Nat) (ha : a ≤ B.length) : (putB B a x).getD k [] = if k = a then B.getD k [] ++ [x] else B.getD k [] := by
  unfold putB
  by_cases h : a = B.length
  · rw [if_pos h]
    subst h
    by_cases hk : k = B.length
    · subst hk; simp
    · rw [if_neg hk]
      by_cases h2 : k < B.length
      · rw [List.getD_eq_getElem?_getD, List.getD_eq_getElem?_getD, List.getElem?_append_left h2]
      · rw [List.getD_eq_getElem?_getD, List.getD_eq_getElem?_getD, List.getElem?_eq_none (by simp; omega), List.getElem?_eq_none (by omega)]
  · rw [if_neg h]
    by_cases hk : k = a
    · subst hk
      rw [if_pos rfl, List.getD_eq_getElem?_getD, List.getElem?_set_self (by omega)]
      rfl
    · rw [if_neg hk, List.getD_eq_getElem?_getD, List.getElem?_set_ne (by omega), List.getD_eq_getElem?_getD]
theorem binv (cl : Nat → Nat → Bool) : ∀ n, BInv cl n
  | 0 => ⟨fun _ h => by omega, fun _ h => by simp [mkB] at h, fun _ h => by simp [mkB] at h⟩
  | n + 1 => by
    have ih := binv cl n
    have hle : lev cl n ≤ (mkB cl n).length := bhd_le _ _ _
    have e : mkB cl (n + 1) = putB (mkB cl n) (lev cl n) n := rfl
    have hl : (mkB cl (n + 1)).length = if lev cl n = (mkB cl n).length then (mkB cl n).length + 1 else (mkB cl n).length := by rw [e, putB_len]
    refine ⟨fun i hi => ?_, fun k hk => ?_, fun k hk => ?_⟩
    · rw [hl]
      by_cases h : i = n
      · subst h; split <;> omega
      · have := ih.lt i (by omega); split <;> omega
    · rw [e, putB_get _ _ _ _ hle, List.range_succ, List.filter_append]
      by_cases h : k < (mkB cl n).length
      · rw [ih.at_ k h]
        by_cases h2 : k = lev cl n
        · rw [if_pos h2]; simp [h2]
        · rw [if_neg h2]; simp; omega
      · have h3 : k = lev cl n ∧ k = (mkB cl n).length := by rw [hl] at hk; split at hk <;> omega
        rw [if_pos h3.1, List.getD_eq_getElem?_getD, List.getElem?_eq_none (by omega)]
        have h4 : (List.range n).filter (fun i => lev cl i == k) = [] := by
          rw [List.filter_eq_nil_iff]
          intro i hi
          have := ih.lt i (List.mem_range.1 hi)
          simp; omega
        rw [h4]
        simp [h3.1]
    · by_cases h : k < (mkB cl n).length
      · obtain ⟨i, h1, h2⟩ := ih.all k h
        exact ⟨i, by omega, h2⟩
      · refine ⟨n, by omega, ?_⟩
        rw [hl] at hk
        split at hk <;> omega
theorem mem_lev (cl : Nat → Nat → Bool) (n k i : Nat) (hk : k < (mkB cl n).length) : i ∈ (mkB cl n).getD k [] ↔ i < n ∧ lev cl i = k := by
  rw [(binv cl n).at_ k hk, List.mem_filter, List.mem_range]; simp
/-- Who clashes with one ahead stands behind it. -/
theorem lev_lt (cl : Nat → Nat → Bool) (i j : Nat) (hj : j < i) (hc : cl j i = true) : lev cl j < lev cl i := by
  by_cases h : lev cl i ≤ lev cl j
  · exfalso
    have hjl := (binv cl i).lt j hj
    have := bhd_none (fun o => cl o i) (mkB cl i) (mkB cl i).length (lev cl j) h hjl
    rw [List.any_eq_false] at this
    exact absurd hc (by simpa using this j ((mem_lev cl i _ j hjl).2 ⟨hj, rfl⟩))
  · omega
/-- And none could stand earlier. -/
theorem lev_held (cl : Nat → Nat → Bool) (i : Nat) (h : 0 < lev cl i) : ∃ j, j < i ∧ cl j i = true ∧ lev cl j + 1 = lev cl i := by
  have h1 := bhd_some (fun o => cl o i) (mkB cl i) (mkB cl i).length h
  have hle : lev cl i ≤ (mkB cl i).length := bhd_le _ _ _
  rw [List.any_eq_true] at h1
  obtain ⟨j, hj, hc⟩ := h1
  have hlt : lev cl i - 1 < (mkB cl i).length := by omega
  have hm := (mem_lev cl i _ j hlt).1 hj
  exact ⟨j, hm.1, hc, by omega⟩
theorem mkB_len (cl : Nat → Nat → Bool) : ∀ n, (mkB cl n).length ≤ n
  | 0 => Nat.le_refl _
  | n + 1 => by
    have := mkB_len cl n
    show (putB _ _ _).length ≤ _
    rw [putB_len]; split <;> omega
theorem mkB_ne (cl : Nat → Nat → Bool) (n k : Nat) (hk : k < (mkB cl n).length) : (mkB cl n).getD k [] ≠ [] := by
  obtain ⟨i, h1, h2⟩ := (binv cl n).all k hk
  intro h
  have := (mem_lev cl n k i hk).2 ⟨h1, h2⟩
  rw [h] at this
  simp at this
end Go.Proofs.Ytnbleebilmghcab
