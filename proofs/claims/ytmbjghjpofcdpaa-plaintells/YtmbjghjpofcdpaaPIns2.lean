/- slices.Insert: the three roads. -/
import Derived.Test.YtmbjghjpofcdpaaPIns
set_option linter.unusedVariables false
set_option linter.unusedSimpArgs false
set_option linter.unnecessarySimpa false
namespace Go.Proofs.Ytmbjghjpofcdpaa
open Go Go.RowKit
attribute [local go_sem ↓] Go.wp_at_zero Go.wp_at_succ

theorem shape_own {w : World} {B n g cap : Nat} {xs : List Value} (h : w.ownsRow B 61 11 (.slice (some ⟨g, 0, none⟩) n cap) n xs) (hc : 0 < cap) : ∃ kB, w.shape? g = some (61, kB) ∧ kB ≠ 0 := by
  obtain ⟨cur, h1, h2, h3, h4, h5⟩ := own_row h
  exact ⟨cur.size, by simp [World.shape?, h1], by rw [h4]; omega⟩
theorem size61r (w : World) : (Go.sizeOf 61).run Try.prog w = .ok 11 w := by kernel_rfl

set_option maxRecDepth 100000 in
set_option maxHeartbeats 4000000 in
/-- Behind the last one. -/
theorem insert_end (B : Nat) (A : Option Addr) (cap : Nat) (rows : List RowI) (r : RowI) (vb : Nat) (w : World) (hn : rows.length ≤ 1000) (hB : B ≤ w.heap.size) (ho : w.ownsRow B 61 11 (.slice A rows.length cap) rows.length (cellsOfRows rows)) (hv : VB1 w vb r) :
    Calls Try.prog 83 #[.slice A rows.length cap, .int .i64 (rows.length : Int), .slice (some ⟨vb, 0, none⟩) 1 1] w fun e w' => ∃ g' c', e = .returned (.slice (some ⟨g', 0, none⟩) (rows.length + 1) c') ∧ w'.ownsRow B 61 11 (.slice (some ⟨g', 0, none⟩) (rows.length + 1) c') (rows.length + 1) (cellsOfRows (rows ++ [r])) ∧ w.grownBy w' (Value.slice A rows.length cap).ownBlock := by
  obtain ⟨i61, hi61, hz61, hs61, hb61⟩ := info_parts info61
  have HI := hide hi61
  have HZ := hide hz61
  have HS := hide hs61
  have HB := hide hb61
  have HE : Hid (cellsOfRows (rows ++ [r]) = cellsOfRows rows ++ rowCells r) := by rw [cells_app]; exact hide (by unfold cellsOfRows; simp)
  have HO := hide ho
  have HV := hide hv
  have hcl : rows.length ≤ cap := by
    rcases ho.2 with ⟨hh, h0⟩ | ⟨g, c, cur, hh, _, _, h1, _⟩
    · omega
    · simp only [Value.slice.injEq, true_and] at hh
      omega
  have hcm : cap ≤ 9223372036854775807 := by
    rcases ho.2 with ⟨hh, h0⟩ | ⟨g, c, cur, hh, _, _, _, h1, _⟩
    · simp only [Value.slice.injEq] at hh; omega
    · simp only [Value.slice.injEq, true_and] at hh
      unfold maxLen at h1; omega
  clear hi61 hz61 hs61 hb61 ho hv
  have q0 : (0 : Int) ≤ (rows.length : Int) := by omega
  generalize cellsOfRows rows = xs at *
  generalize cellsOfRows (rows ++ [r]) = ys at *
  generalize rows.length = n at *
  cases A with
  | none =>
    go_enter Try.func83, Try.ntmps83
    go_wp2_with (first
      | (at_builtin; refine wpList_append1 _ rfl (.tmp 23) (.tmp 24) 36 rfl B 61 i61 _ 11 88 Try.underlying36 (unhide HI) (unhide HZ) (unhide HS) (unhide HB) rfl (by decide) _ n xs rfl (unhide HO) ⟨vb, 0, none⟩ 1 1 (rowCells r) rfl rfl (unhide HV).src (rowCells_one r) (by unfold maxLen; omega) (by omega) hB (by omega) ?_; intro g capg w7 ho7 hg7 hw7; have HO7 := hide ho7; have HG7 := hide hg7; clear ho7 hg7 hw7))
    go_ret
    exact ⟨g, capg, rfl, by rw [unhide HE]; exact unhide HO7, unhide HG7⟩
  | some a =>
    obtain ⟨b, o, sp⟩ := a
    go_enter Try.func83, Try.ntmps83
    go_wp2_with (first
      | (at_builtin; refine wpList_append1 _ rfl (.tmp 23) (.tmp 24) 36 rfl B 61 i61 _ 11 88 Try.underlying36 (unhide HI) (unhide HZ) (unhide HS) (unhide HB) rfl (by decide) _ n xs rfl (unhide HO) ⟨vb, 0, none⟩ 1 1 (rowCells r) rfl rfl (unhide HV).src (rowCells_one r) (by unfold maxLen; omega) (by omega) hB (by omega) ?_; intro g capg w7 ho7 hg7 hw7; have HO7 := hide ho7; have HG7 := hide hg7; clear ho7 hg7 hw7))
    all_goals
      go_ret
      exact ⟨g, capg, rfl, by rw [unhide HE]; exact unhide HO7, unhide HG7⟩

set_option maxRecDepth 100000 in
set_option maxHeartbeats 4000000 in
/-- There is room, and rows behind. -/
theorem insert_shift (B g cap k : Nat) (rows : List RowI) (r : RowI) (vb : Nat) (w : World) (hk : k < rows.length) (hc : rows.length + 1 ≤ cap) (hvg : vb ≠ g) (ho : w.ownsRow B 61 11 (.slice (some ⟨g, 0, none⟩) rows.length cap) rows.length (cellsOfRows rows)) (hv : VB1 w vb r) :
    Calls Try.prog 83 #[.slice (some ⟨g, 0, none⟩) rows.length cap, .int .i64 (k : Int), .slice (some ⟨vb, 0, none⟩) 1 1] w fun e w' => ∃ g' c', e = .returned (.slice (some ⟨g', 0, none⟩) (rows.length + 1) c') ∧ w'.ownsRow B 61 11 (.slice (some ⟨g', 0, none⟩) (rows.length + 1) c') (rows.length + 1) (cellsOfRows (insR rows k r)) ∧ w.grownBy w' (some g) := by
  obtain ⟨cur, c1, c2, c3, c4, c5⟩ := own_row ho
  obtain ⟨xs, hL, hxt⟩ := own_long ho hc
  have hsz : (Try.prog.info? 61).map (·.size) = some 11 := size61
  have hxl : xs.length = (rows.length + 1) * 11 := hL.1
  obtain ⟨kB, hkB, hkB0⟩ := shape_own ho (by omega)
  have hka : w.shape? vb = some (61, 11) := by simp [World.shape?, hv.h, rowCells]
  have hfa : w.frozen? ⟨vb, 0, none⟩ = false := by simp [World.frozen?, hv.h]
  have hfe : w.frozen? ⟨vb, 11, none⟩ = false := by simp [World.frozen?, hv.h]
  have hov : ∀ lb cb, (callFunc 113 #[.slice (some ⟨vb, 0, none⟩) 1 1, .slice (some ⟨g, (k + 1) * 11, none⟩) lb cb]).run Try.prog w = .ok (.value (.bool false)) w := fun lb cb => by
    rw [run_callFunc_extern Try.func113 (by kernel_rfl) (by kernel_rfl) (by kernel_rfl) (e := Extern.SlicesOverlaps.overlaps #[36, 36] #[4]) (by kernel_rfl),
      Lib.run_overlaps_apart w 36 4 61 Try.underlying36 11 size61r ⟨vb, 0, none⟩ ⟨g, (k + 1) * 11, none⟩ 1 1 lb cb hvg 61 61 11 kB hka hkB hkB0 hfa hfe]
    rfl
  have hdl := drop_cells rows k
  have hcp1 : ∀ ty dc sc, (Builtin.copy_ #[36, 36] ty #[.slice (some ⟨g, (k + 1) * 11, none⟩) (rows.length + 1 - (k + 1)) dc, .slice (some ⟨g, k * 11, none⟩) (rows.length + 1 - k) sc]).run Try.prog w.drew = .ok (goInt ((rows.length - k : Nat) : Int)) (w.drew.setCells g ((k + 1) * 11) (cellsOfRows (rows.drop k))) := fun ty dc sc =>
    run_copy_k w.drew 36 36 ty 61 g ((k + 1) * 11) (rows.length + 1 - (k + 1)) dc ⟨g, k * 11, none⟩ (rows.length + 1 - k) sc (rows.length - k) 11 (cellsOfRows (rows.drop k)) Try.underlying36 hsz (by simp only [Nat.min_def]; split <;> omega) hdl (own_src (own_drew ho) k (by omega)) (own_there (own_drew hL) _ _ (by rw [hxl, hdl]; omega)) (cellsOfRows_one _)
  have hL1 := own_sets (cellsOfRows (rows.drop k)) ((k + 1) * 11) _ _ (own_drew hL) (by rw [hxl, hdl]; omega)
  have hl1 : (setsL xs ((k + 1) * 11) (cellsOfRows (rows.drop k))).length = (rows.length + 1) * 11 := by rw [setsL_len]; exact hxl
  obtain ⟨W1, hW1⟩ : ∃ W1, W1 = w.drew.setCells g ((k + 1) * 11) (cellsOfRows (rows.drop k)) := ⟨_, rfl⟩
  rw [← hW1] at hcp1 hL1
  have hv1 : VB1 W1 vb r := by rw [hW1]; exact VB1.sets (⟨hv.h⟩ : VB1 w.drew vb r) hvg
  have hcp2 : ∀ ty dc, (Builtin.copy_ #[36, 36] ty #[.slice (some ⟨g, k * 11, none⟩) (rows.length + 1 - k) dc, .slice (some ⟨vb, 0, none⟩) 1 1]).run Try.prog W1 = .ok (goInt 1) (W1.setCells g (k * 11) (rowCells r)) := fun ty dc =>
    run_copy_k W1 36 36 ty 61 g (k * 11) (rows.length + 1 - k) dc ⟨vb, 0, none⟩ 1 1 1 11 (rowCells r) Try.underlying36 hsz (by simp only [Nat.min_def]; split <;> omega) (by rw [rowCells_len]) hv1.src (own_there hL1 _ _ (by rw [hl1, rowCells_len]; omega)) (rowCells_one r)
  have hL2 := own_sets (rowCells r) (k * 11) _ _ hL1 (by rw [hl1, rowCells_len]; omega)
  rw [ins_shift rows k r xs (by omega) hxl (take_rows hxt (by omega))] at hL2
  have hg1 : w.grownBy W1 (some g) := by rw [hW1]; exact grown_sets (b := g) (o := 0) _ _ _ ⟨rfl, rfl, rfl, Nat.le_refl _, fun _ _ _ => rfl⟩
  have hg2 : w.grownBy (W1.setCells g (k * 11) (rowCells r)) (some g) := grown_sets (b := g) (o := 0) _ _ _ hg1
  have HL2 := hide hL2
  have HG2 := hide hg2
  have HC1 := hide hcp1
  have HC2 := hide hcp2
  unfold maxLen at c3
  clear hL2 hg2 hg1 hL1 hl1 hv1 hW1 hL hxt hxl ho hv hka hfa hfe hkB hkB0 c1 c4 c5 hdl hcp1 hcp2 hsz
  generalize cellsOfRows (insR rows k r) = ys at *
  generalize cellsOfRows (rows.drop k) = mv at *
  generalize rows.length = n at *
  have q0 : (0 : Int) ≤ (k : Int) := by omega
  have q1 : (k : Int) ≤ (n : Int) := by omega
  have q2 : ¬ ((k : Int) = (n : Int)) := by omega
  have q3 : ¬ ((cap : Int) < (n : Int) + 1) := by omega
  have q4 : (n : Int) + 1 ≤ (cap : Int) := by omega
  have q5 : (0 : Int) ≤ (k : Int) + 1 := by omega
  have q6 : (k : Int) + 1 ≤ (n : Int) + 1 := by omega
  have q7 : (k : Int) ≤ (n : Int) + 1 := by omega
  have q8 : ((k : Int) + 1).toNat = k + 1 := by omega
  have q9 : ¬ cap = k + 1 := by omega
  have q10 : ¬ cap = k := by omega
  have q11 : ((n : Int) + 1).toNat = n + 1 := by omega
  have q12 : IntKind.i64.wrap ((k : Int) + 1) = (k : Int) + 1 := by rw [IntKind.wrap_i64]; omega
  go_enter Try.func83, Try.ntmps83
  go_wp2_with (simp only [hov])
  go_region_law (refine step_copy_run rfl (.tmp 73) (.tmp 76) 36 36 rfl _ _ (by simp [Act.eval, Act.put]; rfl) (by simp [Act.eval, Act.put]; rfl) (unhide HC1 _ _ _) ?_)
  have hc2 := unhide HC2 3 (cap - k)
  go_wp2_with fail
  go_ret
  exact ⟨g, cap, rfl, unhide HL2, unhide HG2⟩

theorem wpList_append_run {P : Program} (w : World) {ops : Array Oper} {rest : List Oper} {o : Oper} {a : Act} {Q : Exit → Act → World → Prop} (hgd : o.guard = none) (d s : Operand) (t t' : TypeId)
    (ho : o.op = .call { callee := .builtin .append, args := #[d, s], argTypes := #[t, t'] }) (v u : Value) (hd : a.eval d = v) (hs : a.eval s = u) {v' : Value} {w' : World}
    (hr : (Builtin.append_ #[t, t'] o.type #[v, u]).run P w = .ok v' w') (h : ∀ W1, W1 = w' → wpList P ops Q rest (a.put o.dst v') W1) : wpList P ops Q (o :: rest) a w :=
  wpList_plain hgd fun _ hK => by
    unfold Oper.wp execOp
    simp only [ho, resolve, invoke, builtin, Sem.run_bind, Sem.run_pure, Result.andThen_ok, List.map_toArray, List.map_cons, List.map_nil, hd, hs, hr]
    exact hK _ _ (h _ rfl)
theorem grown_new {w : World} {G : Nat} {row : Option Nat} (hG : w.heap.size ≤ G) : ∀ (vs : List Value) (o : Nat) (W : World), w.grownBy W row → w.grownBy (W.setCells G o vs) row
  | [], _, _, h => h
  | u :: r, o, W, h => grown_new hG r (o + 1) _ ⟨h.os, h.tape, h.output, by rw [World.size_setCell]; exact h.size, fun k hk hne => by
      rw [Below.heap_setCell W ⟨G, o, none⟩ u k (by show k ≠ G; omega)]; exact h.block k hk hne⟩

set_option maxRecDepth 100000 in
set_option maxHeartbeats 4000000 in
/-- There is no room, and there are rows behind. -/
theorem insert_grow (B g cap k : Nat) (rows : List RowI) (r : RowI) (vb : Nat) (w : World) (hn : rows.length ≤ 1000) (hk : k < rows.length) (hc : cap < rows.length + 1) (hB : B ≤ w.heap.size) (ho : w.ownsRow B 61 11 (.slice (some ⟨g, 0, none⟩) rows.length cap) rows.length (cellsOfRows rows)) (hv : VB1 w vb r) :
    Calls Try.prog 83 #[.slice (some ⟨g, 0, none⟩) rows.length cap, .int .i64 (k : Int), .slice (some ⟨vb, 0, none⟩) 1 1] w fun e w' => ∃ g' c', e = .returned (.slice (some ⟨g', 0, none⟩) (rows.length + 1) c') ∧ w'.ownsRow B 61 11 (.slice (some ⟨g', 0, none⟩) (rows.length + 1) c') (rows.length + 1) (cellsOfRows (insR rows k r)) ∧ w.grownBy w' (some g) := by
  obtain ⟨i61, hi61, hz61, hs61, hb61⟩ := info_parts info61
  obtain ⟨cur, c1, c2, c3, c4, c5⟩ := own_row ho
  have hgl := (ho.lt g rfl).2
  have hsz : (Try.prog.info? 61).map (·.size) = some 11 := size61
  have hkm : k + (rows.length + 1 - k) = rows.length + 1 := by omega
  have hold : (Builtin.firstCells i61.size k (.slice (some ⟨g, 0, none⟩) k cap)).run Try.prog w.drew = .ok (cellsOfRows (rows.take k)).toArray w.drew := by
    rw [hs61]
    refine run_firstCells_some w.drew 11 k ⟨g, 0, none⟩ k cap (cellsOfRows (rows.take k)) (by rw [cellsOfRows_len, List.length_take]; congr 1; omega) (fun j u hj => ?_)
    rw [add_off, Nat.zero_add]
    refine own_cell (own_drew ho) ?_
    rw [← cells_take, List.getElem?_take] at hj
    split at hj
    · exact hj
    · cases hj
  obtain ⟨C, hC⟩ : ∃ C, C = grownCap w (rows.length + 1) cap 61 := ⟨_, rfl⟩
  have hCge : rows.length + 1 ≤ C := by rw [hC]; exact grownCap_ge w _ _ _
  have hCm : C ≤ maxLen := by rw [hC]; exact grownCap_le_maxLen w _ _ _ (by unfold maxLen; omega)
  have hrz : ∀ ty, (Builtin.append_ #[36, 3] ty #[.slice (some ⟨g, 0, none⟩) k cap, .int .i64 ((rows.length + 1 - k : Nat) : Int)]).run Try.prog w =
      .ok (.slice (some ⟨w.heap.size, 0, none⟩) (rows.length + 1) C) (w.drew.alloc (.cells ((cellsOfRows (rows.take k)).toArray ++ Builtin.zeroCells (Value.agg #[.int .i64 0, .int .i64 0, .int .i64 0, .int .i64 0, .int .i64 0, .int .i64 0, .int .i64 0, .int .i64 0, .int .i64 0, .int .i64 0, .int .i64 0]).cells (rows.length + 1 - k) ++ Builtin.zeroCells (Value.agg #[.int .i64 0, .int .i64 0, .int .i64 0, .int .i64 0, .int .i64 0, .int .i64 0, .int .i64 0, .int .i64 0, .int .i64 0, .int .i64 0, .int .i64 0]).cells (C - (rows.length + 1))) 61)) := fun ty => by
    have h := Lib.run_append_grow_zeros w 36 3 ty 61 i61 _ .i64 .i64 Try.underlying36 Try.underlying3 hi61 hz61 (some ⟨g, 0, none⟩) k cap (cellsOfRows (rows.take k)) hold (rows.length + 1 - k) (by omega) (by rw [hs61]; decide) (by omega) (by omega) (by rw [hb61]; omega) (by rw [hb61, hkm]; exact growslice_fits (by omega) (by omega))
    rw [hkm, ← hC] at h
    exact h
  obtain ⟨W1, hW1⟩ : ∃ W1, W1 = w.drew.alloc (.cells ((cellsOfRows (rows.take k)).toArray ++ Builtin.zeroCells (Value.agg #[.int .i64 0, .int .i64 0, .int .i64 0, .int .i64 0, .int .i64 0, .int .i64 0, .int .i64 0, .int .i64 0, .int .i64 0, .int .i64 0, .int .i64 0]).cells (rows.length + 1 - k) ++ Builtin.zeroCells (Value.agg #[.int .i64 0, .int .i64 0, .int .i64 0, .int .i64 0, .int .i64 0, .int .i64 0, .int .i64 0, .int .i64 0, .int .i64 0, .int .i64 0, .int .i64 0]).cells (C - (rows.length + 1))) 61) := ⟨_, rfl⟩
  rw [← hW1] at hrz
  have hlt : (cellsOfRows (rows.take k)).length = k * 11 := by rw [cellsOfRows_len, List.length_take]; congr 1; omega
  obtain ⟨xs, hL1, hxt⟩ : ∃ xs, W1.ownsRow B 61 11 (.slice (some ⟨w.heap.size, 0, none⟩) (rows.length + 1) C) (rows.length + 1) xs ∧ xs.take (k * 11) = cellsOfRows (rows.take k) := by
    have hz11 : ∀ m, (Builtin.zeroCells (Value.agg #[.int .i64 0, .int .i64 0, .int .i64 0, .int .i64 0, .int .i64 0, .int .i64 0, .int .i64 0, .int .i64 0, .int .i64 0, .int .i64 0, .int .i64 0]).cells m).size = m * 11 := fun m => size_zeroCells _ m
    rw [hW1]
    have hsize : ((cellsOfRows (rows.take k)).toArray ++ Builtin.zeroCells (Value.agg #[.int .i64 0, .int .i64 0, .int .i64 0, .int .i64 0, .int .i64 0, .int .i64 0, .int .i64 0, .int .i64 0, .int .i64 0, .int .i64 0, .int .i64 0]).cells (rows.length + 1 - k) ++ Builtin.zeroCells (Value.agg #[.int .i64 0, .int .i64 0, .int .i64 0, .int .i64 0, .int .i64 0, .int .i64 0, .int .i64 0, .int .i64 0, .int .i64 0, .int .i64 0, .int .i64 0]).cells (C - (rows.length + 1))).size = C * 11 := by
      rw [Array.size_append, Array.size_append, hz11, hz11, List.size_toArray, hlt]; omega
    refine ⟨_, ⟨?_, .inr ⟨w.heap.size, C, _, rfl, hB, heap_alloc_new w.drew _, hCge, hCm, hsize, rfl⟩⟩, ?_⟩
    · rw [List.length_take, show ∀ a : Array Value, a.toList.length = a.size from fun _ => Array.length_toList, hsize]
      omega
    · rw [List.take_take, Nat.min_eq_left (by omega), Array.toList_append, Array.toList_append, List.append_assoc]
      conv => lhs; rw [← hlt]
      exact List.take_left
  have hxl : xs.length = (rows.length + 1) * 11 := hL1.1
  have ho1 : W1.ownsRow B 61 11 (.slice (some ⟨g, 0, none⟩) rows.length cap) rows.length (cellsOfRows rows) := by rw [hW1]; exact (own_drew ho).alloc _
  have hg1 : w.grownBy W1 (some g) := by rw [hW1]; exact ⟨rfl, rfl, rfl, by simp, fun k hk _ => Below.heap_alloc w.drew _ k hk⟩
  have hvl : vb < w.heap.size := lt_of_block hv.h
  have hv1 : VB1 W1 vb r := ⟨by rw [hW1]; exact (Below.heap_alloc w.drew _ vb hvl).trans hv.h⟩
  have hcp1 : ∀ ty dc, (Builtin.copy_ #[36, 36] ty #[.slice (some ⟨w.heap.size, k * 11, none⟩) (rows.length + 1 - k) dc, .slice (some ⟨vb, 0, none⟩) 1 1]).run Try.prog W1 = .ok (goInt 1) (W1.setCells w.heap.size (k * 11) (rowCells r)) := fun ty dc =>
    run_copy_k W1 36 36 ty 61 w.heap.size (k * 11) (rows.length + 1 - k) dc ⟨vb, 0, none⟩ 1 1 1 11 (rowCells r) Try.underlying36 hsz (by simp only [Nat.min_def]; split <;> omega) (by rw [rowCells_len]) hv1.src (own_there hL1 _ _ (by rw [hxl, rowCells_len]; omega)) (rowCells_one r)
  have hL2 := own_sets (rowCells r) (k * 11) _ _ hL1 (by rw [hxl, rowCells_len]; omega)
  have ho2 := own_setsOther (b := w.heap.size) (by simp [Value.ownBlock]; omega) (rowCells r) (k * 11) _ ho1
  have hg2 := grown_new (G := w.heap.size) (Nat.le_refl _) (rowCells r) (k * 11) _ hg1
  obtain ⟨W2, hW2⟩ : ∃ W2, W2 = W1.setCells w.heap.size (k * 11) (rowCells r) := ⟨_, rfl⟩
  rw [← hW2] at hcp1 hL2 ho2 hg2
  have hl2 : (setsL xs (k * 11) (rowCells r)).length = (rows.length + 1) * 11 := by rw [setsL_len]; exact hxl
  have hdl := drop_cells rows k
  have hcp2 : ∀ ty dc sc, (Builtin.copy_ #[36, 36] ty #[.slice (some ⟨w.heap.size, (k + 1) * 11, none⟩) (rows.length + 1 - (k + 1)) dc, .slice (some ⟨g, k * 11, none⟩) (rows.length - k) sc]).run Try.prog W2.drew = .ok (goInt ((rows.length - k : Nat) : Int)) (W2.drew.setCells w.heap.size ((k + 1) * 11) (cellsOfRows (rows.drop k))) := fun ty dc sc =>
    run_copy_k W2.drew 36 36 ty 61 w.heap.size ((k + 1) * 11) (rows.length + 1 - (k + 1)) dc ⟨g, k * 11, none⟩ (rows.length - k) sc (rows.length - k) 11 (cellsOfRows (rows.drop k)) Try.underlying36 hsz (by simp only [Nat.min_def]; split <;> omega) hdl (own_src (own_drew ho2) k (by omega)) (own_there (own_drew hL2) _ _ (by rw [hl2, hdl]; omega)) (cellsOfRows_one _)
  have hL3 := own_sets (cellsOfRows (rows.drop k)) ((k + 1) * 11) _ _ (own_drew hL2) (by rw [hl2, hdl]; omega)
  rw [ins_fresh rows k r xs (by omega) hxl hxt] at hL3
  have hg3 : w.grownBy (W2.drew.setCells w.heap.size ((k + 1) * 11) (cellsOfRows (rows.drop k))) (some g) := grown_new (Nat.le_refl _) _ _ _ ⟨hg2.os, hg2.tape, hg2.output, hg2.size, hg2.block⟩
  obtain ⟨W3, hW3⟩ : ∃ W3, W3 = W2.drew.setCells w.heap.size ((k + 1) * 11) (cellsOfRows (rows.drop k)) := ⟨_, rfl⟩
  rw [← hW3] at hcp2 hL3 hg3
  have HL3 := hide hL3
  have HG3 := hide hg3
  have HC1 := hide hcp1
  have HC2 := hide hcp2
  have HRZ := hide hrz
  unfold maxLen at c3 hCm
  clear hL3 hg3 hcp1 hcp2 hrz hW1 hW2 hW3 hL1 hL2 ho1 ho2 hg1 hg2 hv1 hxt hxl hl2 hdl hold hC hlt ho hv c1 c4 c5 hsz hi61 hz61 hs61 hb61
  generalize cellsOfRows (insR rows k r) = ys at *
  generalize rows.length = n at *
  have q0 : (0 : Int) ≤ (k : Int) := by omega
  have q1 : (k : Int) ≤ (n : Int) := by omega
  have q2 : ¬ ((k : Int) = (n : Int)) := by omega
  have q3 : (cap : Int) < (n : Int) + 1 := by omega
  have q5 : (0 : Int) ≤ (k : Int) + 1 := by omega
  have q6 : (k : Int) + 1 ≤ (n : Int) + 1 := by omega
  have q7 : (k : Int) ≤ (n : Int) + 1 := by omega
  have q8 : ((k : Int) + 1).toNat = k + 1 := by omega
  have q9 : ¬ C = k + 1 := by omega
  have q10 : ¬ C = k := by omega
  have q10' : ¬ cap = k := by omega
  have q12 : IntKind.i64.wrap ((k : Int) + 1) = (k : Int) + 1 := by rw [IntKind.wrap_i64]; omega
  have q13 : (k : Int) ≤ (cap : Int) := by omega
  have q14 : (n : Int) + 1 - (k : Int) = ((n + 1 - k : Nat) : Int) := by omega
  have q15 : k ≤ n := by omega
  have hc1 := unhide HC1 3 (C - k)
  go_enter Try.func83, Try.ntmps83
  go_wp2_with (first
    | (at_builtin; refine wpList_append_run _ rfl (.tmp 34) (.tmp 39) 36 3 rfl (.slice (some ⟨g, 0, none⟩) k cap) (.int .i64 ((n + 1 - k : Nat) : Int)) rfl (by first | rfl | simp [Act.eval, q14]) (unhide HRZ _) ?_; intro W1' hW1'; obtain rfl := hW1'))
  go_region_law (refine step_copy_run rfl (.tmp 50) (.tmp 53) 36 36 rfl _ _ (by simp [Act.eval, Act.put]; rfl) (by simp [Act.eval, Act.put]; rfl) (unhide HC2 _ _ _) ?_)
  go_wp2_with fail
  go_ret
  exact ⟨w.heap.size, C, rfl, unhide HL3, unhide HG3⟩

/-- WHEREVER IT COMES. -/
theorem insert_any (B : Nat) (A : Option Addr) (cap k : Nat) (rows : List RowI) (r : RowI) (vb : Nat) (w : World) (hn : rows.length ≤ 1000) (hk : k ≤ rows.length) (hB : B ≤ w.heap.size) (hvb : ∀ c o, A = some ⟨c, o, none⟩ → vb ≠ c) (ho : w.ownsRow B 61 11 (.slice A rows.length cap) rows.length (cellsOfRows rows)) (hv : VB1 w vb r) :
    Calls Try.prog 83 #[.slice A rows.length cap, .int .i64 (k : Int), .slice (some ⟨vb, 0, none⟩) 1 1] w fun e w' => ∃ g' c', e = .returned (.slice (some ⟨g', 0, none⟩) (rows.length + 1) c') ∧ w'.ownsRow B 61 11 (.slice (some ⟨g', 0, none⟩) (rows.length + 1) c') (rows.length + 1) (cellsOfRows (insR rows k r)) ∧ w.grownBy w' (Value.slice A rows.length cap).ownBlock := by
  by_cases h : k = rows.length
  · subst h
    rw [insR_end]
    exact insert_end B A cap rows r vb w hn hB ho hv
  · obtain ⟨g, c, hA, _⟩ := own_pos ho (by omega)
    simp only [Value.slice.injEq, true_and] at hA
    obtain ⟨rfl, rfl⟩ := hA
    by_cases hc : rows.length + 1 ≤ cap
    · exact insert_shift B g cap k rows r vb w (by omega) hc (hvb g 0 rfl) ho hv
    · exact insert_grow B g cap k rows r vb w hn (by omega) (by omega) hB ho hv
end Go.Proofs.Ytmbjghjpofcdpaa
