/- Batches that Make owns, and what its steps do to them. -/
import Derived.Test.YtnbleebilmghcabABat2
import Derived.Test.YtnbleebilmghcabAOwn
set_option linter.unnecessarySimpa false
set_option linter.unusedVariables false
set_option linter.unusedSimpArgs false
namespace Go.Proofs.Ytnbleebilmghcab
open Go Go.RowKit

def intsOf (l : List Nat) : List Value := l.map fun x => Value.int .i64 ((x : Nat) : Int)
def nilV : Value := .slice none 0 0
/-- The batches lie in rows of the call's own, no two in one. -/
structure OB (W : World) (base : Nat) (v : Value) (bs : List (List Nat)) (xs : List Value) : Prop where
  top : W.ownsRow base 38 1 v bs.length xs
  each : ∀ k, k < bs.length → W.ownsRow base 3 1 (xs.getD k nilV) (bs.getD k []).length (intsOf (bs.getD k []))
  apart : ∀ k k', k < bs.length → k' < bs.length → k ≠ k' → ∀ g, (xs.getD k nilV).ownBlock = some g → (xs.getD k' nilV).ownBlock ≠ some g
theorem OB.nil (W : World) (base : Nat) : OB W base (.slice none 0 0) [] [] := ⟨World.ownsRow_nil _ _ _ _, fun _ h => by simp at h, fun _ _ h => by simp at h⟩
theorem OB.len {W : World} {base : Nat} {v : Value} {bs : List (List Nat)} {xs : List Value} (h : OB W base v bs xs) : xs.length = bs.length := by simpa using h.top.1
theorem OB.below {W W1 : World} {base : Nat} {v : Value} {bs : List (List Nat)} {xs : List Value} (h : OB W base v bs xs) (hb : Below W.heap.size W W1) : OB W1 base v bs xs :=
  ⟨own_kept h.top hb, fun k hk => own_kept (h.each k hk) hb, h.apart⟩
theorem numsAt_own {W : World} {base : Nat} {v : Value} {l : List Nat} (h : W.ownsRow base 3 1 v l.length (intsOf l)) : ∃ A cap, v = .slice A l.length cap ∧ NumsAt W A l := by
  by_cases h0 : 0 < l.length
  · obtain ⟨g, cap, rfl, _, _⟩ := own_pos h h0
    refine ⟨some ⟨g, 0, none⟩, cap, rfl, fun j hj => ⟨g, 0, rfl, ?_⟩⟩
    rw [Nat.zero_add]
    refine own_cell h ?_
    unfold intsOf
    rw [List.getElem?_map, List.getElem?_eq_getElem hj, List.getD_eq_getElem?_getD, List.getElem?_eq_getElem hj]
    rfl
  · obtain rfl : l = [] := List.eq_nil_of_length_eq_zero (by omega)
    rcases h.2 with ⟨rfl, _⟩ | ⟨g, cap, cur, rfl, _⟩
    · exact ⟨none, 0, rfl, fun j hj => by simp at hj⟩
    · exact ⟨_, cap, rfl, fun j hj => by simp at hj⟩
theorem OB.bats {W : World} {base : Nat} {v : Value} {bs : List (List Nat)} {xs : List Value} (h : OB W base v bs xs) : ∃ B cap, v = .slice B bs.length cap ∧ BatsAt W B bs := by
  by_cases h0 : 0 < bs.length
  · have ht := h.top
    obtain ⟨g, cap, rfl, _, _⟩ := own_pos ht h0
    refine ⟨some ⟨g, 0, none⟩, cap, rfl, fun k hk => ?_⟩
    obtain ⟨A, c, hv, hn⟩ := numsAt_own (h.each k hk)
    refine ⟨g, 0, A, c, rfl, ?_, hn⟩
    rw [Nat.zero_add]
    refine own_cell ht ?_
    have hkx : k < xs.length := by rw [h.len]; exact hk
    rw [← hv, List.getD_eq_getElem?_getD, List.getElem?_eq_getElem hkx]
    rfl
  · obtain rfl : bs = [] := List.eq_nil_of_length_eq_zero (by omega)
    rcases h.top.2 with ⟨rfl, _⟩ | ⟨g, cap, cur, rfl, _⟩
    · exact ⟨none, 0, rfl, fun j hj => by simp at hj⟩
    · exact ⟨_, cap, rfl, fun j hj => by simp at hj⟩
theorem getD_app (xs : List Value) (u : Value) (k : Nat) (h : k < xs.length) : (xs ++ [u]).getD k nilV = xs.getD k nilV := by
  rw [List.getD_eq_getElem?_getD, List.getD_eq_getElem?_getD, List.getElem?_append_left h]
theorem getD_last (xs : List Value) (u : Value) : (xs ++ [u]).getD xs.length nilV = u := by
  rw [List.getD_eq_getElem?_getD]; simp
theorem getDl_app (xs : List (List Nat)) (u : List Nat) (k : Nat) (h : k < xs.length) : (xs ++ [u]).getD k [] = xs.getD k [] := by
  rw [List.getD_eq_getElem?_getD, List.getD_eq_getElem?_getD, List.getElem?_append_left h]
theorem getDl_last (xs : List (List Nat)) (u : List Nat) : (xs ++ [u]).getD xs.length [] = u := by
  rw [List.getD_eq_getElem?_getD]; simp
/-- An empty batch more. -/
theorem OB.push {W W' : World} {base : Nat} {v v' : Value} {bs : List (List Nat)} {xs : List Value} (h : OB W base v bs xs) (ho : W'.ownsRow base 38 1 v' (bs.length + 1) (xs ++ [nilV])) (hg : W.grownBy W' v.ownBlock) : OB W' base v' (bs ++ [[]]) (xs ++ [nilV]) := by
  have hl := h.len
  refine ⟨by simpa using ho, fun k hk => ?_, fun k k' hk hk' hne g hg1 => ?_⟩
  · by_cases hkl : k < bs.length
    · rw [getD_app _ _ _ (by omega), getDl_app _ _ _ hkl]
      exact (h.each k hkl).kept hg (own_apart (h.each k hkl) h.top (by decide))
    · have : k = bs.length := by simp at hk; omega
      subst this
      have e := getD_last xs nilV
      rw [hl] at e
      rw [e, getDl_last]
      exact World.ownsRow_nil _ _ _ _
  · by_cases hkl : k < bs.length
    · rw [getD_app _ _ _ (by omega)] at hg1
      by_cases hkl' : k' < bs.length
      · rw [getD_app _ _ _ (by omega)]; exact h.apart k k' hkl hkl' hne g hg1
      · have : k' = xs.length := by simp at hk'; omega
        subst this
        rw [getD_last]
        simp [nilV, Value.ownBlock]
    · have : k = xs.length := by simp at hk; omega
      subst this
      rw [getD_last] at hg1
      simp [nilV, Value.ownBlock] at hg1
theorem getD_set_self (xs : List Value) (u : Value) (k : Nat) (h : k < xs.length) : (xs.set k u).getD k nilV = u := by
  rw [List.getD_eq_getElem?_getD, List.getElem?_set_self h]; rfl
theorem getD_set_other (xs : List Value) (u : Value) (k j : Nat) (h : k ≠ j) : (xs.set k u).getD j nilV = xs.getD j nilV := by
  rw [List.getD_eq_getElem?_getD, List.getElem?_set_ne h, List.getD_eq_getElem?_getD]
theorem getDl_set_self (xs : List (List Nat)) (u : List Nat) (k : Nat) (h : k < xs.length) : (xs.set k u).getD k [] = u := by
  rw [List.getD_eq_getElem?_getD, List.getElem?_set_self h]; rfl
theorem getDl_set_other (xs : List (List Nat)) (u : List Nat) (k j : Nat) (h : k ≠ j) : (xs.set k u).getD j [] = xs.getD j [] := by
  rw [List.getD_eq_getElem?_getD, List.getElem?_set_ne h, List.getD_eq_getElem?_getD]
/-- A number more in a batch. -/
theorem OB.add {W W' : World} {base g cap : Nat} {bs : List (List Nat)} {xs : List Value} (h : OB W base (.slice (some ⟨g, 0, none⟩) bs.length cap) bs xs) {k x g2 cap2 : Nat} (hk : k < bs.length)
    (ho : W'.ownsRow base 3 1 (.slice (some ⟨g2, 0, none⟩) ((bs.getD k []).length + 1) cap2) ((bs.getD k []).length + 1) (intsOf (bs.getD k []) ++ [.int .i64 (x : Int)])) (hg : W.grownBy W' (xs.getD k nilV).ownBlock) (hw : some g2 = (xs.getD k nilV).ownBlock ∨ W.heap.size ≤ g2) :
    OB (W'.setCell ⟨g, k, none⟩ (.slice (some ⟨g2, 0, none⟩) ((bs.getD k []).length + 1) cap2)) base (.slice (some ⟨g, 0, none⟩) bs.length cap) (bs.set k (bs.getD k [] ++ [x])) (xs.set k (.slice (some ⟨g2, 0, none⟩) ((bs.getD k []).length + 1) cap2)) := by
  have hl := h.len
  have ht := h.top.kept hg (own_apart h.top (h.each k hk) (by decide))
  have hgl := (h.top.lt g rfl).2
  have hg2 : g2 ≠ g := by
    intro e
    subst e
    obtain ⟨cur, h1, _⟩ := own_row ht
    obtain ⟨cur2, h2, _⟩ := own_row ho
    rw [h1] at h2
    simp at h2
  have blk : ∀ j, j < bs.length → j ≠ k → (xs.getD j nilV).ownBlock ≠ some g2 := by
    intro j hj hjk hc
    rcases hw with hw | hw
    · exact h.apart j k hj hk hjk g2 hc hw.symm
    · have := ((h.each j hj).lt g2 hc).2; omega
  have blkg : ∀ j, j < bs.length → (xs.getD j nilV).ownBlock ≠ some g := by
    intro j hj hc
    have := own_apart (h.each j hj) h.top (by decide)
    rcases this with h1 | h1
    · rw [h1] at hc; cases hc
    · exact h1 hc
  refine ⟨?_, fun j hj => ?_, fun j j' hj hj' hne y hy => ?_⟩
  · rw [List.length_set]; exact own_set ht (by omega) _
  · rw [List.length_set] at hj
    by_cases e : k = j
    · subst e
      rw [getD_set_self _ _ _ (by omega), getDl_set_self _ _ _ hk]
      refine ownsRow_setCell_other ?_ (by simpa [Value.ownBlock] using hg2) _
      simpa [intsOf] using ho
    · rw [getD_set_other _ _ _ _ e, getDl_set_other _ _ _ _ e]
      refine ownsRow_setCell_other ((h.each j hj).kept hg ?_) (blkg j hj) _
      cases hb : (xs.getD j nilV).ownBlock with
      | none => exact .inl rfl
      | some y => exact .inr fun hc => h.apart j k hj hk (Ne.symm e) y hb hc.symm
  · rw [List.length_set] at hj hj'
    by_cases e : k = j
    · subst e
      rw [getD_set_self _ _ _ (by omega)] at hy
      rw [getD_set_other _ _ _ _ hne]
      simp only [Value.ownBlock, Option.some.injEq] at hy
      subst hy
      exact blk j' hj' (Ne.symm hne)
    · rw [getD_set_other _ _ _ _ e] at hy
      by_cases e' : k = j'
      · subst e'
        rw [getD_set_self _ _ _ (by omega)]
        intro hc
        simp only [Value.ownBlock, Option.some.injEq] at hc
        subst hc
        exact blk j hj hne hy
      · rw [getD_set_other _ _ _ _ e']; exact h.apart j j' hj hj' hne y hy
end Go.Proofs.Ytnbleebilmghcab
