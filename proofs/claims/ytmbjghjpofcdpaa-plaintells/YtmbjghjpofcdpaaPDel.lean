/- slices.Delete of one row of one's own. -/
import Derived.Test.YtmbjghjpofcdpaaPPut
import Derived.Deep.RegionLaw
set_option linter.unusedVariables false
set_option linter.unusedSimpArgs false
set_option linter.unnecessarySimpa false
namespace Go.Proofs.Ytmbjghjpofcdpaa
open Go Go.RowKit
attribute [local go_sem ↓] Go.wp_at_zero Go.wp_at_succ

theorem zero61 (w : World) : (zeroValue 61).run Try.prog w = .ok (.agg (rowCells dR).toArray) w := by kernel_rfl
set_option maxRecDepth 100000 in
theorem run_clear1 (w : World) (ty : TypeId) (b o c : Nat) (ht : w.there b o 11) : (Builtin.clear_ #[36] ty #[.slice (some ⟨b, o, none⟩) 1 c]).run Try.prog w = .ok (.tuple #[]) (w.setCells b o (rowCells dR)) := by
  have hs := run_storeCells_cells (P := Try.prog) b o (rowCells dR) 0 w (fun j hj => by simpa using (ht j (by simpa [rowCells_len] using hj)).1) (fun j hj => by simpa using (ht j (by simpa [rowCells_len] using hj)).2) (rowCells_one dR)
  simp only [Nat.add_zero] at hs
  have hz : (Builtin.zeroCells (Value.agg #[.int .i64 0, .int .i64 0, .int .i64 0, .int .i64 0, .int .i64 0, .int .i64 0, .int .i64 0, .int .i64 0, .int .i64 0, .int .i64 0, .int .i64 0]).cells 1).toList = rowCells dR := by kernel_rfl
  have h0 := zero61
  unfold rowCells dR at h0
  simp [Builtin.clear_, run_underlying Try.underlying36, h0]
  rw [hz, hs]
  rfl
theorem wpList_clear1 {ops : Array Oper} {rest : List Oper} {op : Oper} {a : Act} {w : World} {Q : Exit → Act → World → Prop} (hgd : op.guard = none) (x : Operand) (ho : op.op = .call { callee := .builtin .clear, args := #[x], argTypes := #[36] })
    (b o c : Nat) (hx : a.eval x = .slice (some ⟨b, o, none⟩) 1 c) (ht : w.there b o 11)
    (h : ∀ W1, W1 = w.setCells b o (rowCells dR) → wpList Try.prog ops Q rest (a.put op.dst (.tuple #[])) W1) : wpList Try.prog ops Q (op :: rest) a w :=
  wpList_plain hgd fun _ hK => by
    unfold Oper.wp execOp
    simp only [ho, resolve, invoke, builtin, Sem.run_bind, Sem.run_pure, Result.andThen_ok, List.map_toArray, List.map_cons, List.map_nil, hx, run_clear1 w op.type b o c ht]
    exact hK _ _ (h _ rfl)

theorem cells_app (a b : List RowI) : cellsOfRows (a ++ b) = cellsOfRows a ++ cellsOfRows b := by unfold cellsOfRows; rw [List.flatMap_append]
theorem setsL_eq : ∀ (vs xs : List Value) (o : Nat), o + vs.length ≤ xs.length → setsL xs o vs = xs.take o ++ vs ++ xs.drop (o + vs.length)
  | vs, xs, o, h => by
    apply List.ext_getElem?
    intro i
    rw [setsL_get]
    by_cases h1 : o ≤ i ∧ i < o + vs.length ∧ i < xs.length
    · rw [if_pos h1, List.append_assoc, List.getElem?_append_right (by rw [List.length_take]; omega), List.length_take, show i - min o xs.length = i - o by omega, List.getElem?_append_left (by omega)]
    · rw [if_neg h1, List.append_assoc]
      by_cases h2 : i < o
      · rw [List.getElem?_append_left (by rw [List.length_take]; omega), List.getElem?_take, if_pos h2]
      · rw [List.getElem?_append_right (by rw [List.length_take]; omega), List.length_take, show i - min o xs.length = i - o by omega, List.getElem?_append_right (by omega), List.getElem?_drop]
        congr 1; omega
theorem take_setsL (vs xs : List Value) (o : Nat) (h : o + vs.length ≤ xs.length) : (setsL xs o vs).take o = xs.take o := by
  rw [setsL_eq vs xs o h, List.append_assoc, List.take_append_of_le_length (by rw [List.length_take]; omega), List.take_take, Nat.min_self]
theorem cells_take (rows : List RowI) (k : Nat) : (cellsOfRows rows).take (k * 11) = cellsOfRows (rows.take k) := by
  by_cases h : k ≤ rows.length
  · have e : rows = rows.take k ++ rows.drop k := (List.take_append_drop k rows).symm
    have hl : (cellsOfRows (rows.take k)).length = k * 11 := by rw [cellsOfRows_len, List.length_take]; congr 1; omega
    conv => lhs; rw [e, cells_app]
    rw [List.take_append_of_le_length (by omega), List.take_of_length_le (by omega)]
  · rw [List.take_of_length_le (by rw [cellsOfRows_len]; omega), List.take_of_length_le (by omega)]
/-- What stands when the rows behind k have gone one place ahead. -/
theorem del_cells (rows : List RowI) (k : Nat) (h : k < rows.length) : (setsL (cellsOfRows rows) (k * 11) (cellsOfRows (rows.drop (k + 1)))).take ((rows.length - 1) * 11) = cellsOfRows (rows.eraseIdx k) := by
  have hl : (cellsOfRows (rows.drop (k + 1))).length = (rows.length - (k + 1)) * 11 := by rw [cellsOfRows_len, List.length_drop]
  rw [setsL_eq _ _ _ (by rw [hl, cellsOfRows_len]; omega), cells_take, List.eraseIdx_eq_take_drop_succ, cells_app]
  have hl2 : (cellsOfRows (rows.take k) ++ cellsOfRows (rows.drop (k + 1))).length = (rows.length - 1) * 11 := by
    rw [List.length_append, hl, cellsOfRows_len, List.length_take]; omega
  rw [← hl2]
  exact List.take_left
/-- A shorter slice of the same row. -/
theorem own_short {W : World} {B : Nat} {e : TypeId} {size n g cap : Nat} {xs : List Value} (h : W.ownsRow B e size (.slice (some ⟨g, 0, none⟩) n cap) n xs) (m : Nat) (hm : m ≤ n) : W.ownsRow B e size (.slice (some ⟨g, 0, none⟩) m cap) m (xs.take (m * size)) := by
  obtain ⟨cur, h1, h2, h3, h4, h5⟩ := own_row h
  have hlo := (h.lt g rfl).1
  have hle : m * size ≤ n * size := Nat.mul_le_mul_right _ hm
  refine ⟨by rw [List.length_take, h.1]; omega, .inr ⟨g, cap, cur, rfl, hlo, h1, by omega, h3, h4, ?_⟩⟩
  rw [← h5, List.take_take, Nat.min_eq_left hle]
theorem own_drew {W : World} {B : Nat} {e : TypeId} {size n : Nat} {v : Value} {xs : List Value} (h : W.ownsRow B e size v n xs) : W.drew.ownsRow B e size v n xs := h
theorem grown_sets {w : World} {b o : Nat} : ∀ (vs : List Value) (o : Nat) (W : World), w.grownBy W (some b) → w.grownBy (W.setCells b o vs) (some b)
  | [], _, _, h => h
  | u :: r, o, W, h => grown_sets (b := b) (o := o) r (o + 1) _ ⟨h.os, h.tape, h.output, by rw [World.size_setCell]; exact h.size, fun k hk hne => by
      rw [Below.heap_setCell W ⟨b, o, none⟩ u k (fun e => hne (by rw [e]))]; exact h.block k hk hne⟩

set_option maxRecDepth 1000000 in
set_option maxHeartbeats 2000000 in
theorem delete_any (B g cap k : Nat) (rows : List RowI) (w : World) (hk : k < rows.length) (ho : w.ownsRow B 61 11 (.slice (some ⟨g, 0, none⟩) rows.length cap) rows.length (cellsOfRows rows)) :
    Calls Try.prog 117 #[.slice (some ⟨g, 0, none⟩) rows.length cap, .int .i64 (k : Int), .int .i64 ((k : Int) + 1)] w fun e w' => e = .returned (.slice (some ⟨g, 0, none⟩) (rows.length - 1) cap) ∧ w'.ownsRow B 61 11 (.slice (some ⟨g, 0, none⟩) (rows.length - 1) cap) (rows.length - 1) (cellsOfRows (rows.eraseIdx k)) ∧ w.grownBy w' (some g) := by
  obtain ⟨i61, hi61, hz61, hs61, hb61⟩ := info_parts info61
  obtain ⟨cur, c1, c2, c3, c4, c5⟩ := own_row ho
  have hdl : (cellsOfRows (rows.drop (k + 1))).length = (rows.length - (k + 1)) * 11 := by rw [cellsOfRows_len, List.length_drop]
  obtain ⟨A, hA, hnews⟩ : ∃ A : Addr, (if cap = k + 1 then some (⟨g, 0, none⟩ : Addr) else some ⟨g, (k + 1) * 11, none⟩) = some A ∧ Hid (∀ j u, (cellsOfRows (rows.drop (k + 1)))[j]? = some u → w.drew.cell? (A.add j) = some u) := by
    by_cases h : cap = k + 1
    · refine ⟨⟨g, 0, none⟩, by simp [h], fun j u hu => ?_⟩
      rw [List.getElem?_eq_none (by rw [hdl]; omega)] at hu
      cases hu
    · refine ⟨⟨g, (k + 1) * 11, none⟩, by simp [h], fun j u hu => ?_⟩
      rw [add_off]
      refine own_cell (own_drew ho) ?_
      have hj : j < (cellsOfRows (rows.drop (k + 1))).length := by
        by_cases hh : j < (cellsOfRows (rows.drop (k + 1))).length
        · exact hh
        · rw [List.getElem?_eq_none (by omega)] at hu; cases hu
      have e : rows = rows.take (k + 1) ++ rows.drop (k + 1) := (List.take_append_drop _ rows).symm
      have hl : (cellsOfRows (rows.take (k + 1))).length = (k + 1) * 11 := by rw [cellsOfRows_len, List.length_take]; congr 1; omega
      rw [← hu]
      conv => lhs; rw [e, cells_app]
      rw [List.getElem?_append_right (by omega), hl]
      congr 1; omega
  have s1 : Hid ((cellsOfRows (rows.drop (k + 1))).length = (rows.length - (k + 1)) * 11) := hdl
  have s2 : Hid (∀ u ∈ cellsOfRows (rows.drop (k + 1)), u.oneCell' = true) := cellsOfRows_one _
  have s3 : Hid (∀ j, j < (cellsOfRows (rows.drop (k + 1))).length → (w.drew.cell? ⟨g, 0 + k * 11 + j, none⟩).isSome = true ∧ w.drew.frozen? ⟨g, 0 + k * 11 + j, none⟩ = false) := by
    intro j hj
    rw [hdl] at hj
    have := own_there (own_drew ho) (k * 11) ((rows.length - (k + 1)) * 11) (by rw [cellsOfRows_len]; omega) j hj
    rw [Nat.zero_add]
    exact this
  have HO := hide ho
  have HD := hide (del_cells rows k hk)
  have HDL := hide hdl
  have HLL := hide (cellsOfRows_len rows)
  unfold maxLen at c3
  clear ho hdl c1 c4 c5 cur
  generalize cellsOfRows (rows.drop (k + 1)) = mv at *
  obtain ⟨m, hm⟩ : ∃ m, rows.length = m + 1 := ⟨rows.length - 1, by omega⟩
  rw [hm] at HO HD HLL s1 hk c2 HDL ⊢
  simp only [Nat.add_sub_cancel] at HD ⊢
  rw [show m + 1 - (k + 1) = m - k by omega] at s1 HDL
  clear hm
  have q0 : (0 : Int) ≤ (k : Int) := by omega
  have q1 : (k : Int) ≤ (k : Int) + 1 := by omega
  have q2 : (k : Int) + 1 ≤ ((m + 1 : Nat) : Int) := by omega
  have q3 : ((k : Int) + 1).toNat = k + 1 := by omega
  have q4 : ((m + 1 : Nat) : Int) ≤ (cap : Int) := by omega
  have q5 : k ≤ cap := by omega
  have q6 : ¬ ((k : Int) = (k : Int) + 1) := by omega
  have q7 : k + (m - k) = m := by omega
  have q8 : (0 : Int) ≤ (k : Int) + 1 := by omega
  have q9 : (k : Int) + 1 ≤ (m : Int) + 1 := by omega
  have q10 : (k : Int) ≤ (m : Int) := by omega
  have q11 : k ≤ m := by omega
  go_enter Try.func117, Try.ntmps117
  go_wp2_with fail
  go_region_law (refine step_append_room rfl (.tmp 22) (.tmp 25) 36 rfl 61 i61 11 Try.underlying36 hi61 hs61 g 0 k cap (by simp [Act.eval, Act.put]) A (m - k) (cap - (k + 1)) mv (by simp [Act.eval, Act.put]) s1.out hnews.out s2.out (by omega) s3.out ?_)
  obtain ⟨W1, hW1⟩ : ∃ W, W = w.drew.setCells g (k * 11) mv := ⟨_, rfl⟩
  have ho1 : W1.ownsRow B 61 11 (.slice (some ⟨g, 0, none⟩) (m + 1) cap) (m + 1) (setsL (cellsOfRows rows) (k * 11) mv) := by
    rw [hW1]; exact own_sets mv (k * 11) _ _ (own_drew (unhide HO)) (by rw [unhide HDL, unhide HLL]; omega)
  have hg1 : w.grownBy W1 (some g) := by
    rw [hW1]; exact grown_sets (b := g) (o := 0) mv (k * 11) _ ⟨rfl, rfl, rfl, Nat.le_refl _, fun _ _ _ => rfl⟩
  rw [← hW1]
  have HL1 : Hid ((setsL (cellsOfRows rows) (k * 11) mv).length = (m + 1) * 11) := by rw [setsL_len]; exact unhide HLL
  have HO1 := hide ho1
  have HG1 := hide hg1
  clear ho1 hg1 hW1 HO s1 s2 s3 hnews hA HDL HLL
  have q12 : (m : Int) + 1 ≤ (cap : Int) := by omega
  have q13 : ¬ cap = m := by omega
  have q14 : m ≤ cap := by omega
  go_wp2_with (first
    | (refine wpList_clear1 rfl (.tmp 31) rfl g (m * 11) (cap - m) rfl (own_there (unhide HO1) (m * 11) 11 (by rw [unhide HL1]; omega)) ?_; intro W2 hW2; have HW2 := hide hW2; clear hW2))
  go_ret
  refine ⟨rfl, ?_, ?_⟩
  · have h2 := own_sets (rowCells dR) (m * 11) _ _ (unhide HO1) (by rw [unhide HL1, rowCells_len]; omega)
    rw [← unhide HW2] at h2
    have h3 := own_short h2 m (by omega)
    rw [take_setsL _ _ _ (by rw [unhide HL1, rowCells_len]; omega), unhide HD] at h3
    exact h3
  · rw [unhide HW2]
    exact grown_sets (b := g) (o := 0) (rowCells dR) (m * 11) _ (unhide HG1)
end Go.Proofs.Ytmbjghjpofcdpaa
