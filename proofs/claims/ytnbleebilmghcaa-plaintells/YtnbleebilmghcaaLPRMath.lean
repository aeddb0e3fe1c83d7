/- What With makes of right worlds. -/
import Derived.Test.YtnbleebilmghcaaLPRWith
set_option linter.unusedVariables false
set_option linter.unusedSimpArgs false
set_option linter.unnecessarySimpa false
namespace Go.Proofs.Ytnbleebilmghcaa
open Go Go.RowKit

theorem getD_row (rows : List RowI) (j : Nat) (h : j < rows.length) : rows.getD j dR = rows[j] := by rw [List.getD_eq_getElem?_getD, List.getElem?_eq_getElem h]; rfl
theorem withTo_low (rows : List RowI) (r : RowI) (p : Nat) (hp : p ≤ rows.length) (h : ∀ t, t < p → (rows.getD t dR).ix < r.ix) : ∀ j, j ≤ p → withTo rows r j = (false, rows.take j)
  | 0, _ => by simp [withTo]
  | j + 1, hj => by
    have hx := h j (by omega)
    rw [withTo_succ rows r j (by omega), withTo_low rows r p hp h j (by omega)]
    have h1 : ¬ r.ix ≤ (rows.getD j dR).ix := by omega
    have h2 : ¬ (rows.getD j dR).ix = r.ix := by omega
    rw [List.take_succ_eq_append_getElem (by omega : j < rows.length), ← getD_row rows j (by omega)]
    generalize rows.getD j dR = y at *
    unfold wStep
    simp [h1, h2]
theorem withTo_high (rows : List RowI) (r : RowI) (q : Nat) (hd : (withTo rows r q).1 = true) (h : ∀ t, q ≤ t → t < rows.length → r.ix < (rows.getD t dR).ix) : ∀ d, q + d ≤ rows.length → withTo rows r (q + d) = (true, (withTo rows r q).2 ++ (rows.drop q).take d)
  | 0, _ => by simp [← hd]
  | d + 1, hj => by
    have hx := h (q + d) (by omega) (by omega)
    rw [show q + (d + 1) = (q + d) + 1 by omega, withTo_succ rows r (q + d) (by omega), withTo_high rows r q hd h d (by omega)]
    have h2 : ¬ (rows.getD (q + d) dR).ix = r.ix := by omega
    have e : (rows.drop q).take (d + 1) = (rows.drop q).take d ++ [rows.getD (q + d) dR] := by
      rw [List.take_succ_eq_append_getElem (by rw [List.length_drop]; omega), List.getElem_drop, ← getD_row rows (q + d) (by omega)]
    rw [e]
    generalize rows.getD (q + d) dR = y at *
    unfold wStep
    simp [h2]
theorem with_new {X : Wd} (hr : RightW X) (r : RowI) (hu : ∀ j, j < X.rows.length → (rowOf X j).ix ≠ r.ix) : withF X.rows r = insR X.rows (placeN X.rows r.ix) r := by
  obtain ⟨p1, p2, p3⟩ := place_spec hr r.ix
  generalize placeN X.rows r.ix = p at *
  have hlow := withTo_low X.rows r p p1 (fun t ht => by
    have h1 := p2 t ht
    have h2 := hu t (by omega)
    have h3 : (X.rows.getD t dR).ix ≤ r.ix := h1
    have h4 : (X.rows.getD t dR).ix ≠ r.ix := h2
    omega)
  unfold insR
  rcases Nat.eq_or_lt_of_le p1 with e | hlt
  · have h1 := hlow p (Nat.le_refl _)
    rw [e] at h1
    unfold withF
    rw [h1, if_pos rfl, e, List.drop_length]
  · have h1 := hlow p (Nat.le_refl _)
    have hx : r.ix < (X.rows.getD p dR).ix := p3 p (Nat.le_refl _) hlt
    have h2 : withTo X.rows r (p + 1) = (true, X.rows.take p ++ [r] ++ [X.rows.getD p dR]) := by
      rw [withTo_succ X.rows r p hlt, h1]
      have a1 : r.ix ≤ (X.rows.getD p dR).ix := by omega
      have a2 : ¬ (X.rows.getD p dR).ix = r.ix := by omega
      generalize X.rows.getD p dR = y at *
      unfold wStep
      simp [a1, a2]
    have h3 := withTo_high X.rows r (p + 1) (by rw [h2]) (fun t h1 h2 => p3 t (by omega) h2) (X.rows.length - (p + 1)) (by omega)
    rw [show p + 1 + (X.rows.length - (p + 1)) = X.rows.length by omega, h2] at h3
    unfold withF
    rw [h3, if_neg (by simp)]
    have e1 : (X.rows.drop (p + 1)).take (X.rows.length - (p + 1)) = X.rows.drop (p + 1) := by
      rw [← List.length_drop]; exact List.take_length
    show X.rows.take p ++ [r] ++ [X.rows.getD p dR] ++ (X.rows.drop (p + 1)).take (X.rows.length - (p + 1)) = _
    rw [e1, getD_row X.rows p hlt, List.append_assoc, List.append_assoc]
    simp [List.getElem_cons_drop]
theorem with_set {X : Wd} (hr : RightW X) {k : Nat} (hk : k < X.rows.length) (r : RowI) (hi : r.ix = (rowOf X k).ix) : withF X.rows r = X.rows.set k r := by
  have h1 := withTo_low X.rows r k (by omega) (fun t ht => by rw [hi]; exact hr.lt' ht hk) k (Nat.le_refl _)
  have h2 : withTo X.rows r (k + 1) = (true, X.rows.take k ++ [r]) := by
    rw [withTo_succ X.rows r k hk, h1]
    have a1 : (X.rows.getD k dR).ix = r.ix := hi.symm
    generalize X.rows.getD k dR = y at *
    unfold wStep
    simp [a1]
  have h3 := withTo_high X.rows r (k + 1) (by rw [h2]) (fun t h1 h2 => by rw [hi]; exact hr.lt' (by omega) h2) (X.rows.length - (k + 1)) (by omega)
  rw [show k + 1 + (X.rows.length - (k + 1)) = X.rows.length by omega, h2] at h3
  unfold withF
  rw [h3, if_neg (by simp)]
  have e1 : (X.rows.drop (k + 1)).take (X.rows.length - (k + 1)) = X.rows.drop (k + 1) := by
    rw [← List.length_drop]; exact List.take_length
  show X.rows.take k ++ [r] ++ (X.rows.drop (k + 1)).take (X.rows.length - (k + 1)) = _
  rw [e1, List.set_eq_take_append_cons_drop, if_pos hk]
  simp
end Go.Proofs.Ytnbleebilmghcaa
