/- slices.Insert of one row into rows of one's own. -/
import Derived.Test.YtmbjghjpofcdpaaPKill
import Derived.Lib.Overlaps
import Derived.Lib.AppendZerosOnto
import Derived.Laws.Externs
import Derived.Laws.IdiomCopy
import Derived.Shelf.RegionOpenPlain
set_option linter.unusedVariables false
set_option linter.unusedSimpArgs false
set_option linter.unnecessarySimpa false
namespace Go.Proofs.Ytmbjghjpofcdpaa
open Go Go.RowKit
attribute [local go_sem ↓] Go.wp_at_zero Go.wp_at_succ

theorem run_copy_k (w : World) (dT sT ty elem : TypeId) (b o dLen dCap : Nat) (a : Addr) (sLen sCap n k : Nat) (cs : List Value) {P : Program}
    (hu : P.underlying dT = some (.slice elem)) (hs : (P.info? elem).map (·.size) = some k) (hm : Nat.min sLen dLen = n) (hn : cs.length = n * k)
    (hsrc : ∀ j v, cs[j]? = some v → w.cell? (a.add j) = some v) (ht : w.there b o cs.length) (h1 : ∀ v ∈ cs, v.oneCell' = true) :
    (Builtin.copy_ #[dT, sT] ty #[.slice (some ⟨b, o, none⟩) dLen dCap, .slice (some a) sLen sCap]).run P w = .ok (goInt n) (w.setCells b o cs) := by
  have hl := run_loadCells_list (P := P) w a cs hsrc
  have hst := run_storeCells_cells (P := P) b o cs 0 w (fun j hj => by simpa using (ht j hj).1) (fun j hj => by simpa using (ht j hj).2) h1
  cases hq : P.info? elem with
  | none => simp [hq] at hs
  | some i =>
    have hi : i.size = k := by simpa [hq] using hs
    simp [Builtin.copy_, run_underlying hu, Builtin.lenOf, Builtin.firstCells, sizeOf, typeInfo, hq, hi, hm, ← hn, hl, hst]
theorem wp_copy_run {P : Program} (w : World) {o : Oper} {a : Act} {K : Act → World → Prop} {Q : Exit → Act → World → Prop} (d s : Operand) (t t' : TypeId)
    (ho : o.op = .call { callee := .builtin .copy, args := #[d, s], argTypes := #[t, t'] }) (v u : Value) (hd : a.eval d = v) (hs : a.eval s = u) {v' : Value} {w' : World}
    (hr : (Builtin.copy_ #[t, t'] o.type #[v, u]).run P w = .ok v' w') (h : K (a.put o.dst v') w') : o.wp P a w K Q := by
  unfold Oper.wp execOp
  simp only [ho, resolve, invoke, builtin, Sem.run_bind, Sem.run_pure, Result.andThen_ok, List.map_toArray, List.map_cons, List.map_nil, hd, hs, hr]
  exact h
theorem wpList_copy_run {P : Program} (w : World) {ops : Array Oper} {rest : List Oper} {o : Oper} {a : Act} {Q : Exit → Act → World → Prop} (hgd : o.guard = none) (d s : Operand) (t t' : TypeId)
    (ho : o.op = .call { callee := .builtin .copy, args := #[d, s], argTypes := #[t, t'] }) (v u : Value) (hd : a.eval d = v) (hs : a.eval s = u) {v' : Value} {w' : World}
    (hr : (Builtin.copy_ #[t, t'] o.type #[v, u]).run P w = .ok v' w') (h : ∀ W1, W1 = w' → wpList P ops Q rest (a.put o.dst v') W1) : wpList P ops Q (o :: rest) a w :=
  wpList_plain hgd fun _ hK => wp_copy_run w d s t t' ho v u hd hs hr (hK _ _ (h _ rfl))
theorem step_copy_run {P : Program} {ops : Array Oper} {o : Oper} {a : Act} {w : World} {K : Act → World → Prop} {Q : Exit → Act → World → Prop} {E : Prop}
    (hg : o.guard = none) (d x : Operand) (dT sT : TypeId) (hop : o.op = Op.call { callee := Callee.builtin Builtin.copy, args := #[d, x], argTypes := #[dT, sT] })
    (v u : Value) (hd : a.eval d = v) (hx : a.eval x = u) {v' : Value} {w' : World} (hr : (Builtin.copy_ #[dT, sT] o.type #[v, u]).run P w = .ok v' w') (hK : K (a.put o.dst v') w') :
    if Region.wanted o (yielded ops a.tmps) = true then Oper.wp P o a w K Q else E := by
  have hw : Region.wanted o (yielded ops a.tmps) = true := by simp [Region.wanted, hg]
  rw [if_pos hw]
  unfold Oper.wp
  simp [execOp, hop, resolve, invoke, builtin, hd, hx, hr, Result.andThen]
  exact hK

def insR (rows : List RowI) (k : Nat) (r : RowI) : List RowI := rows.take k ++ r :: rows.drop k
theorem insR_len (rows : List RowI) (k : Nat) (r : RowI) (h : k ≤ rows.length) : (insR rows k r).length = rows.length + 1 := by unfold insR; simp; omega
theorem insR_cells (rows : List RowI) (k : Nat) (r : RowI) : cellsOfRows (insR rows k r) = cellsOfRows (rows.take k) ++ rowCells r ++ cellsOfRows (rows.drop k) := by
  unfold insR
  rw [cells_app, List.append_assoc]
  rfl
theorem insR_end (rows : List RowI) (r : RowI) : insR rows rows.length r = rows ++ [r] := by unfold insR; simp
theorem drop_cells (rows : List RowI) (k : Nat) : (cellsOfRows (rows.drop k)).length = (rows.length - k) * 11 := by rw [cellsOfRows_len, List.length_drop]
/-- What stood from k on goes one place on; then the new row comes. -/
theorem ins_shift (rows : List RowI) (k : Nat) (r : RowI) (xs : List Value) (hk : k ≤ rows.length) (hl : xs.length = (rows.length + 1) * 11) (hx : xs.take (k * 11) = cellsOfRows (rows.take k)) :
    setsL (setsL xs ((k + 1) * 11) (cellsOfRows (rows.drop k))) (k * 11) (rowCells r) = cellsOfRows (insR rows k r) := by
  have hd := drop_cells rows k
  rw [insR_cells]
  generalize cellsOfRows (rows.drop k) = mv at *
  have h1 : setsL xs ((k + 1) * 11) mv = xs.take ((k + 1) * 11) ++ mv := by
    rw [setsL_eq _ _ _ (by rw [hd, hl]; omega), List.drop_of_length_le (by rw [hd, hl]; omega), List.append_nil]
  have ht : (xs.take ((k + 1) * 11)).length = (k + 1) * 11 := by rw [List.length_take, hl]; omega
  rw [h1, setsL_eq _ _ _ (by rw [List.length_append, ht, hd, rowCells_len]; omega), ← hx, rowCells_len]
  rw [List.take_append_of_le_length (by rw [ht]; omega), List.take_take, Nat.min_eq_left (by omega)]
  congr 1
  rw [show k * 11 + 11 = (xs.take ((k + 1) * 11)).length by rw [ht]; omega, List.drop_left]
theorem ins_fresh (rows : List RowI) (k : Nat) (r : RowI) (xs : List Value) (hk : k ≤ rows.length) (hl : xs.length = (rows.length + 1) * 11) (hx : xs.take (k * 11) = cellsOfRows (rows.take k)) :
    setsL (setsL xs (k * 11) (rowCells r)) ((k + 1) * 11) (cellsOfRows (rows.drop k)) = cellsOfRows (insR rows k r) := by
  have hd := drop_cells rows k
  rw [insR_cells]
  generalize cellsOfRows (rows.drop k) = mv at *
  have hlen : (setsL xs (k * 11) (rowCells r)).length = (rows.length + 1) * 11 := by rw [setsL_len]; exact hl
  rw [setsL_eq _ _ _ (by rw [hd, hlen]; omega), List.drop_of_length_le (by rw [hd, hlen]; omega), List.append_nil, ← hx]
  congr 1
  have ht : (xs.take (k * 11)).length = k * 11 := by rw [List.length_take, hl]; omega
  rw [setsL_eq _ _ _ (by rw [hl, rowCells_len]; omega), List.take_append_of_le_length (by rw [List.length_append, ht, rowCells_len]; omega), List.take_of_length_le (by rw [List.length_append, ht, rowCells_len]; omega)]
/-- One element more of the same row, where there is room. -/
theorem own_long {W : World} {B n g cap : Nat} {xs : List Value} (h : W.ownsRow B 61 11 (.slice (some ⟨g, 0, none⟩) n cap) n xs) (hc : n + 1 ≤ cap) : ∃ ys, W.ownsRow B 61 11 (.slice (some ⟨g, 0, none⟩) (n + 1) cap) (n + 1) ys ∧ ys.take (n * 11) = xs := by
  obtain ⟨cur, h1, h2, h3, h4, h5⟩ := own_row h
  have hlo := (h.lt g rfl).1
  refine ⟨cur.toList.take ((n + 1) * 11), ⟨by rw [List.length_take, Array.length_toList, h4, Nat.min_eq_left]; exact Nat.mul_le_mul_right _ hc, .inr ⟨g, cap, cur, rfl, hlo, h1, hc, h3, h4, rfl⟩⟩, ?_⟩
  rw [List.take_take, Nat.min_eq_left (by omega), h5]
theorem take_rows {xs : List Value} {rows : List RowI} {n k : Nat} (h : xs.take (n * 11) = cellsOfRows rows) (hk : k ≤ n) : xs.take (k * 11) = cellsOfRows (rows.take k) := by
  rw [← cells_take, ← h, List.take_take, Nat.min_eq_left (by omega)]
theorem own_src {W : World} {B n g cap : Nat} {rows : List RowI} (h : W.ownsRow B 61 11 (.slice (some ⟨g, 0, none⟩) n cap) n (cellsOfRows rows)) (k : Nat) (hk : k ≤ rows.length) : ∀ j v, (cellsOfRows (rows.drop k))[j]? = some v → W.cell? ((⟨g, k * 11, none⟩ : Addr).add j) = some v := by
  intro j v hj
  rw [add_off]
  refine own_cell h ?_
  have e : rows = rows.take k ++ rows.drop k := (List.take_append_drop _ rows).symm
  have hl : (cellsOfRows (rows.take k)).length = k * 11 := by rw [cellsOfRows_len, List.length_take]; congr 1; omega
  rw [← hj]
  conv => lhs; rw [e, cells_app]
  rw [List.getElem?_append_right (by omega), hl]
  congr 1; omega
/-- The row that is to come lies in a block of its own. -/
structure VB1 (w : World) (vb : Nat) (r : RowI) : Prop where
  h : w.heap[vb]? = some (.cells (rowCells r).toArray 61 (0, 0))
theorem VB1.src {w : World} {vb : Nat} {r : RowI} (h : VB1 w vb r) : ∀ j v, (rowCells r)[j]? = some v → w.cell? ((⟨vb, 0, none⟩ : Addr).add j) = some v := by
  intro j v hj
  rw [add_off, Nat.zero_add, cell_of_row w vb j _ 61 (0, 0) h.h]
  simpa using hj
theorem VB1.sets {w : World} {vb g o : Nat} {r : RowI} {vs : List Value} (h : VB1 w vb r) (hg : vb ≠ g) : VB1 (w.setCells g o vs) vb r := by
  refine ⟨?_⟩
  have : ∀ (vs : List Value) (o : Nat) (W : World), W.heap[vb]? = some (.cells (rowCells r).toArray 61 (0, 0)) → (W.setCells g o vs).heap[vb]? = some (.cells (rowCells r).toArray 61 (0, 0)) := fun vs => by
    induction vs with
    | nil => intro o W h; exact h
    | cons u rr ih => intro o W h; exact ih (o + 1) _ (by rw [Below.heap_setCell W ⟨g, o, none⟩ u vb hg]; exact h)
  exact this vs o w h.h
end Go.Proofs.Ytmbjghjpofcdpaa
