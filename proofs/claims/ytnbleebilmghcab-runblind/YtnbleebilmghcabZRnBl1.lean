/- The world that the law RunBlind makes out of another one. -/
import Derived.Test.YtnbleebilmghcabZRnBl0
set_option linter.all false
namespace Go.Proofs.Ytnbleebilmghcab
open Go Go.RowKit
def uRow (pt : Nat) (x : Int) (r : RowI) : RowI := ⟨r.ix, r.gen, r.has, fun k => if k = pt then x else r.v k⟩
def uAt (vals : List Int) (pt i : Nat) (r : RowI) : RowI := if i < vals.length ∧ hasB r.has (pt : Int) = true ∧ valB (vals.getD i 0) = true then uRow pt (vals.getD i 0) r else r
def uTo (X : Wd) (vals : List Int) (pt : Nat) : Nat → List RowI
  | 0 => []
  | k + 1 => uTo X vals pt k ++ [uAt vals pt k (rowOf X k)]
def uW (X : Wd) (vals : List Int) (pt : Nat) : Wd := ⟨uTo X vals pt X.rows.length, X.gens⟩
theorem uTo_len (X : Wd) (vals : List Int) (pt : Nat) : ∀ k, (uTo X vals pt k).length = k
  | 0 => rfl
  | k + 1 => by unfold uTo; simp [uTo_len X vals pt k]
theorem uTo_get (X : Wd) (vals : List Int) (pt : Nat) : ∀ k j, j < k → (uTo X vals pt k).getD j dR = uAt vals pt j (rowOf X j)
  | 0, j, h => by omega
  | k + 1, j, h => by
    unfold uTo
    rw [List.getD_eq_getElem?_getD]
    by_cases e : j < k
    · rw [List.getElem?_append_left (by rw [uTo_len]; exact e), ← List.getD_eq_getElem?_getD, uTo_get X vals pt k j e]
    · have : j = k := by omega
      subst this
      rw [List.getElem?_append_right (by rw [uTo_len]; exact Nat.le_refl _), uTo_len]
      simp
theorem zp_u (vals : List Int) (pt i : Nat) (r : RowI) : zp pt (uAt vals pt i r) = zp pt r := by
  unfold uAt
  split
  · refine zp_iff.2 ⟨rfl, rfl, rfl, fun k hk => ?_⟩
    show (if k = pt then _ else r.v k) = _
    rw [if_neg hk]
  · rfl
theorem uW_like (X : Wd) (vals : List Int) (pt : Nat) : LK pt X (uW X vals pt) := by
  have key : ∀ k, k ≤ X.rows.length → (uTo X vals pt k).map (zp pt) = (X.rows.take k).map (zp pt) := by
    intro k
    induction k with
    | zero => intro _; simp [uTo]
    | succ k ih =>
      intro hk
      unfold uTo
      rw [List.map_append, ih (by omega), List.take_succ_eq_append_getElem (by omega), List.map_append]
      simp only [List.map_cons, List.map_nil, zp_u]
      have : rowOf X k = X.rows[k] := by unfold rowOf; rw [List.getD_eq_getElem?_getD, List.getElem?_eq_getElem (by omega), Option.getD_some]
      rw [this]
  refine ⟨rfl, ?_⟩
  have := key X.rows.length (Nat.le_refl _)
  rw [List.take_length] at this
  exact this.symm
theorem has_biF : ∀ m : Fin 256, ∀ k : Fin 8, hasB (m.val : Int) ((k.val : Nat) : Int) = hasI (m.val : Int) ((k.val : Nat) : Int) := by decide +kernel
theorem uW_right {X : Wd} (hr : RightW X) (vals : List Int) {pt : Nat} (hp : pt < 8) : RightW (uW X vals pt) := by
  have hl : (uW X vals pt).rows.length = X.rows.length := uTo_len X vals pt _
  have hg : (uW X vals pt).gens = X.gens := rfl
  have hrow : ∀ j, j < X.rows.length → rowOf (uW X vals pt) j = uAt vals pt j (rowOf X j) := fun j hj => uTo_get X vals pt _ j hj
  have hid : ∀ j, j < X.rows.length → (rowOf (uW X vals pt) j).ix = (rowOf X j).ix ∧ (rowOf (uW X vals pt) j).gen = (rowOf X j).gen := fun j hj => by
    rw [hrow j hj]
    obtain ⟨h1, h2, _, _⟩ := zp_iff.1 (zp_u vals pt j (rowOf X j))
    exact ⟨h1, h2⟩
  refine ⟨hr.gl, hr.gv, fun j hj => ?_, fun j hj => ?_, fun j hj => ?_, fun j hj => ?_, fun j hj => ?_⟩
  · rw [hl] at hj
    rw [hrow j hj]
    have h0 := hr.rv j hj
    unfold uAt
    split
    · rename_i hc
      unfold rvB at h0 ⊢
      rw [Bool.and_eq_true] at h0 ⊢
      refine ⟨h0.1, ?_⟩
      unfold okVs at h0 ⊢
      rw [List.all_eq_true] at h0 ⊢
      intro k hk
      have hok := h0.2 k hk
      unfold okV at hok ⊢
      show (valB (if k = pt then vals.getD j 0 else (rowOf X j).v k) && ((if k = pt then vals.getD j 0 else (rowOf X j).v k) == 0 || hasI (rowOf X j).has (k : Int))) = true
      by_cases e : k = pt
      · subst e
        have hs := of_decide_eq_true (p := 0 ≤ (rowOf X j).has ∧ (rowOf X j).has ≤ 255) h0.1
        obtain ⟨m, hm⟩ := fin_of _ hs.1 hs.2
        have hb := hc.2.1
        rw [hm] at hb
        have := has_biF m ⟨k, hp⟩
        rw [if_pos rfl, hc.2.2, hm, ← this, hb]
        simp
      · rw [if_neg e]; exact hok
    · exact h0
  · rw [hl] at hj; rw [(hid j hj).1]; exact hr.i0 j hj
  · rw [hl] at hj; rw [(hid j hj).1, hg]; exact hr.il j hj
  · rw [hl] at hj; rw [(hid j (by omega)).1, (hid (j + 1) hj).1]; exact hr.up j hj
  · rw [hl] at hj; rw [(hid j hj).1, (hid j hj).2, hg]; exact hr.ge j hj
theorem LK.zero {pt : Nat} {P Q : Wd} (h : LK pt P Q) (j : Nat) : uRow pt 0 (rowOf P j) = uRow pt 0 (rowOf Q j) := h.row j
end Go.Proofs.Ytnbleebilmghcab
