/- Right worlds. -/
import Derived.Test.YtmbjghjpofcdpaaPSet
set_option linter.unnecessarySimpa false
set_option linter.unusedVariables false
set_option linter.unusedSimpArgs false
namespace Go.Proofs.Ytmbjghjpofcdpaa
open Go Go.RowKit

def rowOf (X : Wd) (j : Nat) : RowI := X.rows.getD j dR
structure RightW (X : Wd) : Prop where
  gl : X.gens.length ≤ 60
  gv : ∀ j, j < X.gens.length → 1 ≤ X.gens.getD j 0 ∧ X.gens.getD j 0 ≤ 1000
  rv : ∀ j, j < X.rows.length → rvB (rowOf X j) = true
  i0 : ∀ j, j < X.rows.length → 0 ≤ (rowOf X j).ix
  il : ∀ j, j < X.rows.length → (rowOf X j).ix < (X.gens.length : Int)
  up : ∀ j, j + 1 < X.rows.length → (rowOf X j).ix < (rowOf X (j + 1)).ix
  ge : ∀ j, j < X.rows.length → (rowOf X j).gen = X.gens.getD (rowOf X j).ix.toNat 0

theorem gTo_zero (f : Nat → Int) (r : Int × Int) : ∀ m j, (gTo f r m j).1 = 0 ↔ r.1 = 0 ∧ ∀ t, j ≤ t → t < j + m → 1 ≤ f t ∧ f t ≤ 1000
  | 0, j => by
    unfold gTo
    exact ⟨fun h => ⟨h, fun t h1 h2 => by omega⟩, fun h => h.1⟩
  | m + 1, j => by
    unfold gTo
    split
    · rename_i hc
      refine ⟨fun h => by simp at h, fun ⟨_, h⟩ => ?_⟩
      have := h j (by omega) (by omega)
      omega
    · rename_i hc
      rw [gTo_zero f r m (j + 1)]
      refine ⟨fun ⟨h1, h2⟩ => ⟨h1, fun t h3 h4 => ?_⟩, fun ⟨h1, h2⟩ => ⟨h1, fun t h3 h4 => h2 t (by omega) (by omega)⟩⟩
      by_cases e : t = j
      · subst e; omega
      · exact h2 t (by omega) (by omega)
theorem rTo_zero (R : Nat → RowI) (gn : Nat) (f : Nat → Int) : ∀ m j, (rTo R gn f m j).1 = 0 ↔ ∀ t, j ≤ t → t < j + m → wrowI R gn f t = 0
  | 0, j => by
    unfold rTo
    exact ⟨fun _ t h1 h2 => by omega, fun _ => rfl⟩
  | m + 1, j => by
    unfold rTo
    split
    · rename_i hc
      rw [rTo_zero R gn f m (j + 1)]
      refine ⟨fun h t h1 h2 => ?_, fun h t h1 h2 => h t (by omega) (by omega)⟩
      by_cases e : t = j
      · subst e; exact hc
      · exact h t (by omega) (by omega)
    · rename_i hc
      exact ⟨fun h => absurd h hc, fun h => absurd (h j (by omega) (by omega)) hc⟩
theorem wrowI_zero (R : Nat → RowI) (gn : Nat) (f : Nat → Int) (j : Nat) : wrowI R gn f j = 0 ↔ rvB (R j) = true ∧ 0 ≤ (R j).ix ∧ (R j).ix < (gn : Int) ∧ (0 < j → (R (j - 1)).ix < (R j).ix) ∧ (R j).gen = f (R j).ix.toNat := by
  unfold wrowI
  split
  · rename_i h
    constructor
    · intro h2; omega
    · rintro ⟨a, b, c, _⟩
      rcases h with h | h | h
      · rw [a] at h; cases h
      · omega
      · omega
  · rename_i h
    have h1 : rvB (R j) = true := by cases e : rvB (R j) <;> simp_all
    have h2 : 0 ≤ (R j).ix ∧ (R j).ix < (gn : Int) := by
      constructor
      · exact Int.not_lt.1 fun e => h (.inr (.inl e))
      · exact Int.not_le.1 fun e => h (.inr (.inr e))
    split
    · rename_i h3
      refine ⟨fun e => by omega, fun ⟨_, _, _, e, _⟩ => ?_⟩
      have := e h3.1; omega
    · rename_i h3
      split
      · rename_i h4
        exact ⟨fun _ => ⟨h1, h2.1, h2.2, fun e => Int.not_le.1 fun e2 => h3 ⟨e, e2⟩, h4⟩, fun _ => rfl⟩
      · rename_i h4
        exact ⟨fun e => by omega, fun ⟨_, _, _, _, e⟩ => absurd e h4⟩
theorem right_iff (X : Wd) : (wrongW X).1 = 0 ↔ RightW X := by
  unfold wrongW plainF
  split
  · rename_i h
    exact ⟨fun e => by simp at e, fun e => by have := e.gl; omega⟩
  · rename_i h
    rw [gTo_zero, rTo_zero]
    constructor
    · rintro ⟨h1, h2⟩
      have h3 : ∀ j, j < X.rows.length → _ := fun j hj => (wrowI_zero _ _ _ j).1 (h1 j (Nat.zero_le _) (by omega))
      exact ⟨by omega, fun j hj => h2 j (Nat.zero_le _) (by omega), fun j hj => (h3 j hj).1, fun j hj => (h3 j hj).2.1, fun j hj => (h3 j hj).2.2.1, fun j hj => (h3 (j + 1) hj).2.2.2.1 (by omega), fun j hj => (h3 j hj).2.2.2.2⟩
    · intro hr
      refine ⟨fun t _ ht => (wrowI_zero _ _ _ t).2 ?_, fun t _ ht => hr.gv t (by omega)⟩
      have ht' : t < X.rows.length := by omega
      refine ⟨hr.rv t ht', hr.i0 t ht', hr.il t ht', fun h0 => ?_, hr.ge t ht'⟩
      obtain ⟨s, rfl⟩ : ∃ s, t = s + 1 := ⟨t - 1, by omega⟩
      exact hr.up s ht'

theorem RightW.lt {X : Wd} (h : RightW X) : ∀ d i, i + d + 1 < X.rows.length → (rowOf X i).ix < (rowOf X (i + d + 1)).ix
  | 0, i, hi => h.up i hi
  | d + 1, i, hi => Int.lt_trans (h.lt d i (by omega)) (h.up (i + d + 1) hi)
theorem RightW.lt' {X : Wd} (h : RightW X) {i j : Nat} (hij : i < j) (hj : j < X.rows.length) : (rowOf X i).ix < (rowOf X j).ix := by
  have := h.lt (j - i - 1) i (by omega)
  rwa [show i + (j - i - 1) + 1 = j by omega] at this
theorem RightW.one {X : Wd} (h : RightW X) {i j : Nat} (hi : i < X.rows.length) (hj : j < X.rows.length) (e : (rowOf X i).ix = (rowOf X j).ix) : i = j := by
  rcases Nat.lt_trichotomy i j with l | l | l
  · have := h.lt' l hj; omega
  · exact l
  · have := h.lt' l hi; omega
theorem RightW.ge_ix {X : Wd} (h : RightW X) : ∀ j, j < X.rows.length → (j : Int) ≤ (rowOf X j).ix
  | 0, hj => by have := h.i0 0 hj; omega
  | j + 1, hj => by have := h.ge_ix j (by omega); have := h.up j hj; omega
theorem RightW.len {X : Wd} (h : RightW X) : X.rows.length ≤ X.gens.length := by
  rcases Nat.eq_zero_or_pos X.rows.length with e | e
  · omega
  · have h1 := h.ge_ix (X.rows.length - 1) (by omega)
    have h2 := h.il (X.rows.length - 1) (by omega)
    omega
theorem right_hr {X : Wd} (h : (wrongW X).1 = 0) : X.rows.length ≤ 60 ∧ X.gens.length ≤ 60 ∧ ∀ j, j < X.gens.length → 1 ≤ X.gens.getD j 0 := by
  have hr := (right_iff X).1 h
  have := hr.len
  have := hr.gl
  exact ⟨by omega, hr.gl, fun j hj => (hr.gv j hj).1⟩

theorem right_fit {X : Wd} (h : (wrongW X).1 = 0) : X.rows.length * 88 ≤ 140737488355328 ∧ X.gens.length * 8 ≤ 140737488355328 := by
  obtain ⟨h1, h2, _⟩ := right_hr h
  omega
end Go.Proofs.Ytmbjghjpofcdpaa
