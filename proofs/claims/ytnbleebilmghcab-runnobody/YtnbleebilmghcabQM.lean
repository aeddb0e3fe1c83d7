/- SInsT, SGrp, SFill, Gho -/
import Derived.Test.YtnbleebilmghcabQA
import Derived.Test.YtnbleebilmghcabQC
import Derived.Test.YtnbleebilmghcabQL
set_option linter.all false
namespace Go.Proofs.Ytnbleebilmghcab
open Go Go.RowKit
attribute [local go_sem ↓] Go.wp_at_zero Go.wp_at_succ
structure T3 where
  h : Int
  a : Option Addr
  n : Nat
  c : Nat
  C : Option Addr
  m : Nat
  d : Nat
def t3Cells (x : T3) : List Value := [.int .i64 x.h, .slice x.a x.n x.c, .slice x.C x.m x.d]
def cellsOfT3 (l : List T3) : List Value := l.flatMap t3Cells
theorem t3Cells_len (x : T3) : (t3Cells x).length = 3 := rfl
theorem info92 : (Try.prog.info? 98).map (fun i => (i.zero, i.size, i.bytes)) = some (some (.agg #[.int .i64 0, .slice none 0 0, .slice none 0 0]), 3, 56) := by kernel_rfl
theorem size92 : (Try.prog.info? 98).map (·.size) = some 3 := by kernel_rfl
theorem cellsOfT3_len : ∀ rows : List T3, (cellsOfT3 rows).length = rows.length * 3
  | [] => rfl
  | x :: r => by
    have := cellsOfT3_len r
    unfold cellsOfT3 at this ⊢
    rw [List.flatMap_cons, List.length_append, t3Cells_len, this, List.length_cons]; omega
theorem cellsOfT3_one (rows : List T3) : ∀ u ∈ cellsOfT3 rows, u.oneCell' = true := by
  intro u hu
  unfold cellsOfT3 at hu
  obtain ⟨x, _, hx⟩ := List.mem_flatMap.1 hu
  simp only [t3Cells, List.mem_cons, List.not_mem_nil, or_false] at hx
  rcases hx with rfl | rfl | rfl | rfl | rfl | rfl | rfl | rfl | rfl | rfl | rfl <;> rfl
theorem cellsT_app (a b : List T3) : cellsOfT3 (a ++ b) = cellsOfT3 a ++ cellsOfT3 b := by unfold cellsOfT3; rw [List.flatMap_append]
theorem cellsT_take (rows : List T3) (k : Nat) : (cellsOfT3 rows).take (k * 3) = cellsOfT3 (rows.take k) := by
  by_cases h : k ≤ rows.length
  · have e : rows = rows.take k ++ rows.drop k := (List.take_append_drop k rows).symm
    have hl : (cellsOfT3 (rows.take k)).length = k * 3 := by rw [cellsOfT3_len, List.length_take]; congr 1; omega
    conv => lhs; rw [e, cellsT_app]
    rw [List.take_append_of_le_length (by omega), List.take_of_length_le (by omega)]
  · rw [List.take_of_length_le (by rw [cellsOfT3_len]; omega), List.take_of_length_le (by omega)]
theorem t3Cells_one (x : T3) : ∀ u ∈ t3Cells x, u.oneCell' = true := fun u hu => by
  unfold t3Cells at hu
  simp only [List.mem_cons, List.not_mem_nil, or_false] at hu
  rcases hu with rfl | rfl | rfl <;> rfl
def insT (rows : List T3) (k : Nat) (r : T3) : List T3 := rows.take k ++ r :: rows.drop k
theorem insT_len (rows : List T3) (k : Nat) (r : T3) (h : k ≤ rows.length) : (insT rows k r).length = rows.length + 1 := by unfold insT; simp; omega
theorem insT_cells (rows : List T3) (k : Nat) (r : T3) : cellsOfT3 (insT rows k r) = cellsOfT3 (rows.take k) ++ t3Cells r ++ cellsOfT3 (rows.drop k) := by
  unfold insT
  rw [cellsT_app, List.append_assoc]
  rfl
theorem insT_end (rows : List T3) (r : T3) : insT rows rows.length r = rows ++ [r] := by unfold insT; simp
theorem drop_cellsT (rows : List T3) (k : Nat) : (cellsOfT3 (rows.drop k)).length = (rows.length - k) * 3 := by rw [cellsOfT3_len, List.length_drop]
theorem ins_shiftT (rows : List T3) (k : Nat) (r : T3) (xs : List Value) (hk : k ≤ rows.length) (hl : xs.length = (rows.length + 1) * 3) (hx : xs.take (k * 3) = cellsOfT3 (rows.take k)) :
    setsL (setsL xs ((k + 1) * 3) (cellsOfT3 (rows.drop k))) (k * 3) (t3Cells r) = cellsOfT3 (insT rows k r) := by
  have hd := drop_cellsT rows k
  rw [insT_cells]
  generalize cellsOfT3 (rows.drop k) = mv at *
  have h1 : setsL xs ((k + 1) * 3) mv = xs.take ((k + 1) * 3) ++ mv := by
    rw [setsL_eq _ _ _ (by rw [hd, hl]; omega), List.drop_of_length_le (by rw [hd, hl]; omega), List.append_nil]
  have ht : (xs.take ((k + 1) * 3)).length = (k + 1) * 3 := by rw [List.length_take, hl]; omega
  rw [h1, setsL_eq _ _ _ (by rw [List.length_append, ht, hd, t3Cells_len]; omega), ← hx, t3Cells_len]
  rw [List.take_append_of_le_length (by rw [ht]; omega), List.take_take, Nat.min_eq_left (by omega)]
  congr 1
  rw [show k * 3 + 3 = (xs.take ((k + 1) * 3)).length by rw [ht]; omega, List.drop_left]
theorem ins_freshT (rows : List T3) (k : Nat) (r : T3) (xs : List Value) (hk : k ≤ rows.length) (hl : xs.length = (rows.length + 1) * 3) (hx : xs.take (k * 3) = cellsOfT3 (rows.take k)) :
    setsL (setsL xs (k * 3) (t3Cells r)) ((k + 1) * 3) (cellsOfT3 (rows.drop k)) = cellsOfT3 (insT rows k r) := by
  have hd := drop_cellsT rows k
  rw [insT_cells]
  generalize cellsOfT3 (rows.drop k) = mv at *
  have hlen : (setsL xs (k * 3) (t3Cells r)).length = (rows.length + 1) * 3 := by rw [setsL_len]; exact hl
  rw [setsL_eq _ _ _ (by rw [hd, hlen]; omega), List.drop_of_length_le (by rw [hd, hlen]; omega), List.append_nil, ← hx]
  congr 1
  have ht : (xs.take (k * 3)).length = k * 3 := by rw [List.length_take, hl]; omega
  rw [setsL_eq _ _ _ (by rw [hl, t3Cells_len]; omega), List.take_append_of_le_length (by rw [List.length_append, ht, t3Cells_len]; omega), List.take_of_length_le (by rw [List.length_append, ht, t3Cells_len]; omega)]
theorem own_longT {W : World} {B n g cap : Nat} {xs : List Value} (h : W.ownsRow B 98 3 (.slice (some ⟨g, 0, none⟩) n cap) n xs) (hc : n + 1 ≤ cap) : ∃ ys, W.ownsRow B 98 3 (.slice (some ⟨g, 0, none⟩) (n + 1) cap) (n + 1) ys ∧ ys.take (n * 3) = xs := by
  obtain ⟨cur, h1, h2, h3, h4, h5⟩ := own_row h
  have hlo := (h.lt g rfl).1
  refine ⟨cur.toList.take ((n + 1) * 3), ⟨by rw [List.length_take, Array.length_toList, h4, Nat.min_eq_left]; exact Nat.mul_le_mul_right _ hc, .inr ⟨g, cap, cur, rfl, hlo, h1, hc, h3, h4, rfl⟩⟩, ?_⟩
  rw [List.take_take, Nat.min_eq_left (by omega), h5]
theorem take_rowsT {xs : List Value} {rows : List T3} {n k : Nat} (h : xs.take (n * 3) = cellsOfT3 rows) (hk : k ≤ n) : xs.take (k * 3) = cellsOfT3 (rows.take k) := by
  rw [← cellsT_take, ← h, List.take_take, Nat.min_eq_left (by omega)]
theorem own_srcT {W : World} {B n g cap : Nat} {rows : List T3} (h : W.ownsRow B 98 3 (.slice (some ⟨g, 0, none⟩) n cap) n (cellsOfT3 rows)) (k : Nat) (hk : k ≤ rows.length) : ∀ j v, (cellsOfT3 (rows.drop k))[j]? = some v → W.cell? ((⟨g, k * 3, none⟩ : Addr).add j) = some v := by
  intro j v hj
  rw [add_off]
  refine own_cell h ?_
  have e : rows = rows.take k ++ rows.drop k := (List.take_append_drop _ rows).symm
  have hl : (cellsOfT3 (rows.take k)).length = k * 3 := by rw [cellsOfT3_len, List.length_take]; congr 1; omega
  rw [← hj]
  conv => lhs; rw [e, cellsT_app]
  rw [List.getElem?_append_right (by omega), hl]
  congr 1; omega
structure VBT (w : World) (vb : Nat) (r : T3) : Prop where
  h : w.heap[vb]? = some (.cells (t3Cells r).toArray 98 (0, 0))
theorem VBT.src {w : World} {vb : Nat} {r : T3} (h : VBT w vb r) : ∀ j v, (t3Cells r)[j]? = some v → w.cell? ((⟨vb, 0, none⟩ : Addr).add j) = some v := by
  intro j v hj
  rw [add_off, Nat.zero_add, cell_of_row w vb j _ 98 (0, 0) h.h]
  simpa using hj
theorem VBT.sets {w : World} {vb g o : Nat} {r : T3} {vs : List Value} (h : VBT w vb r) (hg : vb ≠ g) : VBT (w.setCells g o vs) vb r := by
  refine ⟨?_⟩
  have : ∀ (vs : List Value) (o : Nat) (W : World), W.heap[vb]? = some (.cells (t3Cells r).toArray 98 (0, 0)) → (W.setCells g o vs).heap[vb]? = some (.cells (t3Cells r).toArray 98 (0, 0)) := fun vs => by
    induction vs with
    | nil => intro o W h; exact h
    | cons u rr ih => intro o W h; exact ih (o + 1) _ (by rw [Below.heap_setCell W ⟨g, o, none⟩ u vb hg]; exact h)
  exact this vs o w h.h
theorem shape_ownT {w : World} {B n g cap : Nat} {xs : List Value} (h : w.ownsRow B 98 3 (.slice (some ⟨g, 0, none⟩) n cap) n xs) (hc : 0 < cap) : ∃ kB, w.shape? g = some (98, kB) ∧ kB ≠ 0 := by
  obtain ⟨cur, h1, h2, h3, h4, h5⟩ := own_row h
  exact ⟨cur.size, by simp [World.shape?, h1], by rw [h4]; omega⟩
theorem size92r (w : World) : (Go.sizeOf 98).run Try.prog w = .ok 3 w := by kernel_rfl
set_option maxRecDepth 100000 in
set_option maxHeartbeats 4000000 in
theorem insertT_end (B : Nat) (A : Option Addr) (cap : Nat) (rows : List T3) (r : T3) (vb : Nat) (w : World) (hn : rows.length ≤ 1000) (hB : B ≤ w.heap.size) (ho : w.ownsRow B 98 3 (.slice A rows.length cap) rows.length (cellsOfT3 rows)) (hv : VBT w vb r) :
    Calls Try.prog 108 #[.slice A rows.length cap, .int .i64 (rows.length : Int), .slice (some ⟨vb, 0, none⟩) 1 1] w fun e w' => ∃ g' c', e = .returned (.slice (some ⟨g', 0, none⟩) (rows.length + 1) c') ∧ w'.ownsRow B 98 3 (.slice (some ⟨g', 0, none⟩) (rows.length + 1) c') (rows.length + 1) (cellsOfT3 (rows ++ [r])) ∧ w.grownBy w' (Value.slice A rows.length cap).ownBlock := by
  obtain ⟨i92, hi92, hz92, hs92, hb92⟩ := info_parts info92
  have HI := hide hi92
  have HZ := hide hz92
  have HS := hide hs92
  have HB := hide hb92
  have HE : Hid (cellsOfT3 (rows ++ [r]) = cellsOfT3 rows ++ t3Cells r) := by rw [cellsT_app]; exact hide (by unfold cellsOfT3; simp)
  have HO := hide ho
  have HV := hide hv
  have hcl : rows.length ≤ cap := by
    rcases ho.2 with ⟨hh, h0⟩ | ⟨g, c, cur, hh, _, _, h1, _⟩
    · omega
    · simp only [Value.slice.injEq, true_and] at hh
      omega
  have hcm : cap ≤ 9223372036854775807 := by
    rcases ho.2 with ⟨hh, h0⟩ | ⟨g, c, cur, hh, _, _, _, h1, _⟩
    · simp only [Value.slice.injEq] at hh; omega
    · simp only [Value.slice.injEq, true_and] at hh
      unfold maxLen at h1; omega
  clear hi92 hz92 hs92 hb92 ho hv
  have q0 : (0 : Int) ≤ (rows.length : Int) := by omega
  generalize cellsOfT3 rows = xs at *
  generalize cellsOfT3 (rows ++ [r]) = ys at *
  generalize rows.length = n at *
  cases A with
  | none =>
    go_enter Try.func108, Try.ntmps108
    go_wp2_with (first
      | (at_builtin; refine wpList_append1 _ rfl (.tmp 23) (.tmp 24) 41 rfl B 98 i92 _ 3 56 Try.underlying41 (unhide HI) (unhide HZ) (unhide HS) (unhide HB) rfl (by decide) _ n xs rfl (unhide HO) ⟨vb, 0, none⟩ 1 1 (t3Cells r) rfl rfl (unhide HV).src (t3Cells_one r) (by unfold maxLen; omega) (by omega) hB (by omega) ?_; intro g capg w7 ho7 hg7 hw7; have HO7 := hide ho7; have HG7 := hide hg7; clear ho7 hg7 hw7))
    go_ret
    exact ⟨g, capg, rfl, by rw [unhide HE]; exact unhide HO7, unhide HG7⟩
  | some a =>
    obtain ⟨b, o, sp⟩ := a
    go_enter Try.func108, Try.ntmps108
    go_wp2_with (first
      | (at_builtin; refine wpList_append1 _ rfl (.tmp 23) (.tmp 24) 41 rfl B 98 i92 _ 3 56 Try.underlying41 (unhide HI) (unhide HZ) (unhide HS) (unhide HB) rfl (by decide) _ n xs rfl (unhide HO) ⟨vb, 0, none⟩ 1 1 (t3Cells r) rfl rfl (unhide HV).src (t3Cells_one r) (by unfold maxLen; omega) (by omega) hB (by omega) ?_; intro g capg w7 ho7 hg7 hw7; have HO7 := hide ho7; have HG7 := hide hg7; clear ho7 hg7 hw7))
    all_goals
      go_ret
      exact ⟨g, capg, rfl, by rw [unhide HE]; exact unhide HO7, unhide HG7⟩
set_option maxRecDepth 100000 in
set_option maxHeartbeats 4000000 in
theorem insertT_shift (B g cap k : Nat) (rows : List T3) (r : T3) (vb : Nat) (w : World) (hk : k < rows.length) (hc : rows.length + 1 ≤ cap) (hvg : vb ≠ g) (ho : w.ownsRow B 98 3 (.slice (some ⟨g, 0, none⟩) rows.length cap) rows.length (cellsOfT3 rows)) (hv : VBT w vb r) :
    Calls Try.prog 108 #[.slice (some ⟨g, 0, none⟩) rows.length cap, .int .i64 (k : Int), .slice (some ⟨vb, 0, none⟩) 1 1] w fun e w' => ∃ g' c', e = .returned (.slice (some ⟨g', 0, none⟩) (rows.length + 1) c') ∧ w'.ownsRow B 98 3 (.slice (some ⟨g', 0, none⟩) (rows.length + 1) c') (rows.length + 1) (cellsOfT3 (insT rows k r)) ∧ w.grownBy w' (some g) := by
  obtain ⟨cur, c1, c2, c3, c4, c5⟩ := own_row ho
  obtain ⟨xs, hL, hxt⟩ := own_longT ho hc
  have hsz : (Try.prog.info? 98).map (·.size) = some 3 := size92
  have hxl : xs.length = (rows.length + 1) * 3 := hL.1
  obtain ⟨kB, hkB, hkB0⟩ := shape_ownT ho (by omega)
  have hka : w.shape? vb = some (98, 3) := by simp [World.shape?, hv.h, t3Cells]
  have hfa : w.frozen? ⟨vb, 0, none⟩ = false := by simp [World.frozen?, hv.h]
  have hfe : w.frozen? ⟨vb, 3, none⟩ = false := by simp [World.frozen?, hv.h]
  have hov : ∀ lb cb, (callFunc 118 #[.slice (some ⟨vb, 0, none⟩) 1 1, .slice (some ⟨g, (k + 1) * 3, none⟩) lb cb]).run Try.prog w = .ok (.value (.bool false)) w := fun lb cb => by
    rw [run_callFunc_extern Try.func118 (by kernel_rfl) (by kernel_rfl) (by kernel_rfl) (e := Extern.SlicesOverlaps.overlaps #[41, 41] #[4]) (by kernel_rfl),
      Lib.run_overlaps_apart w 41 4 98 Try.underlying41 3 size92r ⟨vb, 0, none⟩ ⟨g, (k + 1) * 3, none⟩ 1 1 lb cb hvg 98 98 3 kB hka hkB hkB0 hfa hfe]
    rfl
  have hdl := drop_cellsT rows k
  have hcp1 : ∀ ty dc sc, (Builtin.copy_ #[41, 41] ty #[.slice (some ⟨g, (k + 1) * 3, none⟩) (rows.length + 1 - (k + 1)) dc, .slice (some ⟨g, k * 3, none⟩) (rows.length + 1 - k) sc]).run Try.prog w.drew = .ok (goInt ((rows.length - k : Nat) : Int)) (w.drew.setCells g ((k + 1) * 3) (cellsOfT3 (rows.drop k))) := fun ty dc sc =>
    run_copy_k w.drew 41 41 ty 98 g ((k + 1) * 3) (rows.length + 1 - (k + 1)) dc ⟨g, k * 3, none⟩ (rows.length + 1 - k) sc (rows.length - k) 3 (cellsOfT3 (rows.drop k)) Try.underlying41 hsz (by simp only [Nat.min_def]; split <;> omega) hdl (own_srcT (own_drew ho) k (by omega)) (own_there (own_drew hL) _ _ (by rw [hxl, hdl]; omega)) (cellsOfT3_one _)
  have hL1 := own_sets (cellsOfT3 (rows.drop k)) ((k + 1) * 3) _ _ (own_drew hL) (by rw [hxl, hdl]; omega)
  have hl1 : (setsL xs ((k + 1) * 3) (cellsOfT3 (rows.drop k))).length = (rows.length + 1) * 3 := by rw [setsL_len]; exact hxl
  obtain ⟨W1, hW1⟩ : ∃ W1, W1 = w.drew.setCells g ((k + 1) * 3) (cellsOfT3 (rows.drop k)) := ⟨_, rfl⟩
  rw [← hW1] at hcp1 hL1
  have hv1 : VBT W1 vb r := by rw [hW1]; exact VBT.sets (⟨hv.h⟩ : VBT w.drew vb r) hvg
  have hcp2 : ∀ ty dc, (Builtin.copy_ #[41, 41] ty #[.slice (some ⟨g, k * 3, none⟩) (rows.length + 1 - k) dc, .slice (some ⟨vb, 0, none⟩) 1 1]).run Try.prog W1 = .ok (goInt 1) (W1.setCells g (k * 3) (t3Cells r)) := fun ty dc =>
    run_copy_k W1 41 41 ty 98 g (k * 3) (rows.length + 1 - k) dc ⟨vb, 0, none⟩ 1 1 1 3 (t3Cells r) Try.underlying41 hsz (by simp only [Nat.min_def]; split <;> omega) (by rw [t3Cells_len]) hv1.src (own_there hL1 _ _ (by rw [hl1, t3Cells_len]; omega)) (t3Cells_one r)
  have hL2 := own_sets (t3Cells r) (k * 3) _ _ hL1 (by rw [hl1, t3Cells_len]; omega)
  rw [ins_shiftT rows k r xs (by omega) hxl (take_rowsT hxt (by omega))] at hL2
  have hg1 : w.grownBy W1 (some g) := by rw [hW1]; exact grown_sets (b := g) (o := 0) _ _ _ ⟨rfl, rfl, rfl, Nat.le_refl _, fun _ _ _ => rfl⟩
  have hg2 : w.grownBy (W1.setCells g (k * 3) (t3Cells r)) (some g) := grown_sets (b := g) (o := 0) _ _ _ hg1
  have HL2 := hide hL2
  have HG2 := hide hg2
  have HC1 := hide hcp1
  have HC2 := hide hcp2
  unfold maxLen at c3
  clear hL2 hg2 hg1 hL1 hl1 hv1 hW1 hL hxt hxl ho hv hka hfa hfe hkB hkB0 c1 c4 c5 hdl hcp1 hcp2 hsz
  generalize cellsOfT3 (insT rows k r) = ys at *
  generalize cellsOfT3 (rows.drop k) = mv at *
  generalize rows.length = n at *
  have q0 : (0 : Int) ≤ (k : Int) := by omega
  have q1 : (k : Int) ≤ (n : Int) := by omega
  have q2 : ¬ ((k : Int) = (n : Int)) := by omega
  have q3 : ¬ ((cap : Int) < (n : Int) + 1) := by omega
  have q4 : (n : Int) + 1 ≤ (cap : Int) := by omega
  have q5 : (0 : Int) ≤ (k : Int) + 1 := by omega
  have q6 : (k : Int) + 1 ≤ (n : Int) + 1 := by omega
  have q7 : (k : Int) ≤ (n : Int) + 1 := by omega
  have q8 : ((k : Int) + 1).toNat = k + 1 := by omega
  have q9 : ¬ cap = k + 1 := by omega
  have q10 : ¬ cap = k := by omega
  have q11 : ((n : Int) + 1).toNat = n + 1 := by omega
  have q12 : IntKind.i64.wrap ((k : Int) + 1) = (k : Int) + 1 := by rw [IntKind.wrap_i64]; omega
  go_enter Try.func108, Try.ntmps108
  go_wp2_with (simp only [hov])
  go_region_law (refine step_copy_run rfl (.tmp 73) (.tmp 76) 41 41 rfl _ _ (by simp [Act.eval, Act.put]; rfl) (by simp [Act.eval, Act.put]; rfl) (unhide HC1 _ _ _) ?_)
  have hc2 := unhide HC2 3 (cap - k)
  go_wp2_with fail
  go_ret
  exact ⟨g, cap, rfl, unhide HL2, unhide HG2⟩
set_option maxRecDepth 100000 in
set_option maxHeartbeats 4000000 in
theorem insertT_grow (B g cap k : Nat) (rows : List T3) (r : T3) (vb : Nat) (w : World) (hn : rows.length ≤ 1000) (hk : k < rows.length) (hc : cap < rows.length + 1) (hB : B ≤ w.heap.size) (ho : w.ownsRow B 98 3 (.slice (some ⟨g, 0, none⟩) rows.length cap) rows.length (cellsOfT3 rows)) (hv : VBT w vb r) :
    Calls Try.prog 108 #[.slice (some ⟨g, 0, none⟩) rows.length cap, .int .i64 (k : Int), .slice (some ⟨vb, 0, none⟩) 1 1] w fun e w' => ∃ g' c', e = .returned (.slice (some ⟨g', 0, none⟩) (rows.length + 1) c') ∧ w'.ownsRow B 98 3 (.slice (some ⟨g', 0, none⟩) (rows.length + 1) c') (rows.length + 1) (cellsOfT3 (insT rows k r)) ∧ w.grownBy w' (some g) := by
  obtain ⟨i92, hi92, hz92, hs92, hb92⟩ := info_parts info92
  obtain ⟨cur, c1, c2, c3, c4, c5⟩ := own_row ho
  have hgl := (ho.lt g rfl).2
  have hsz : (Try.prog.info? 98).map (·.size) = some 3 := size92
  have hkm : k + (rows.length + 1 - k) = rows.length + 1 := by omega
  have hold : (Builtin.firstCells i92.size k (.slice (some ⟨g, 0, none⟩) k cap)).run Try.prog w.drew = .ok (cellsOfT3 (rows.take k)).toArray w.drew := by
    rw [hs92]
    refine run_firstCells_some w.drew 3 k ⟨g, 0, none⟩ k cap (cellsOfT3 (rows.take k)) (by rw [cellsOfT3_len, List.length_take]; congr 1; omega) (fun j u hj => ?_)
    rw [add_off, Nat.zero_add]
    refine own_cell (own_drew ho) ?_
    rw [← cellsT_take, List.getElem?_take] at hj
    split at hj
    · exact hj
    · cases hj
  obtain ⟨C, hC⟩ : ∃ C, C = grownCap w (rows.length + 1) cap 98 := ⟨_, rfl⟩
  have hCge : rows.length + 1 ≤ C := by rw [hC]; exact grownCap_ge w _ _ _
  have hCm : C ≤ maxLen := by rw [hC]; exact grownCap_le_maxLen w _ _ _ (by unfold maxLen; omega)
  have hrz : ∀ ty, (Builtin.append_ #[41, 3] ty #[.slice (some ⟨g, 0, none⟩) k cap, .int .i64 ((rows.length + 1 - k : Nat) : Int)]).run Try.prog w =
      .ok (.slice (some ⟨w.heap.size, 0, none⟩) (rows.length + 1) C) (w.drew.alloc (.cells ((cellsOfT3 (rows.take k)).toArray ++ Builtin.zeroCells (Value.agg #[.int .i64 0, .slice none 0 0, .slice none 0 0]).cells (rows.length + 1 - k) ++ Builtin.zeroCells (Value.agg #[.int .i64 0, .slice none 0 0, .slice none 0 0]).cells (C - (rows.length + 1))) 98)) := fun ty => by
    have h := Lib.run_append_grow_zeros w 41 3 ty 98 i92 _ .i64 .i64 Try.underlying41 Try.underlying3 hi92 hz92 (some ⟨g, 0, none⟩) k cap (cellsOfT3 (rows.take k)) hold (rows.length + 1 - k) (by omega) (by rw [hs92]; decide) (by omega) (by omega) (by rw [hb92]; omega) (by rw [hb92, hkm]; exact growslice_fits (by omega) (by omega))
    rw [hkm, ← hC] at h
    exact h
  obtain ⟨W1, hW1⟩ : ∃ W1, W1 = w.drew.alloc (.cells ((cellsOfT3 (rows.take k)).toArray ++ Builtin.zeroCells (Value.agg #[.int .i64 0, .slice none 0 0, .slice none 0 0]).cells (rows.length + 1 - k) ++ Builtin.zeroCells (Value.agg #[.int .i64 0, .slice none 0 0, .slice none 0 0]).cells (C - (rows.length + 1))) 98) := ⟨_, rfl⟩
  rw [← hW1] at hrz
  have hlt : (cellsOfT3 (rows.take k)).length = k * 3 := by rw [cellsOfT3_len, List.length_take]; congr 1; omega
  obtain ⟨xs, hL1, hxt⟩ : ∃ xs, W1.ownsRow B 98 3 (.slice (some ⟨w.heap.size, 0, none⟩) (rows.length + 1) C) (rows.length + 1) xs ∧ xs.take (k * 3) = cellsOfT3 (rows.take k) := by
    have hz11 : ∀ m, (Builtin.zeroCells (Value.agg #[.int .i64 0, .slice none 0 0, .slice none 0 0]).cells m).size = m * 3 := fun m => size_zeroCells _ m
    rw [hW1]
    have hsize : ((cellsOfT3 (rows.take k)).toArray ++ Builtin.zeroCells (Value.agg #[.int .i64 0, .slice none 0 0, .slice none 0 0]).cells (rows.length + 1 - k) ++ Builtin.zeroCells (Value.agg #[.int .i64 0, .slice none 0 0, .slice none 0 0]).cells (C - (rows.length + 1))).size = C * 3 := by
      rw [Array.size_append, Array.size_append, hz11, hz11, List.size_toArray, hlt]; omega
    refine ⟨_, ⟨?_, .inr ⟨w.heap.size, C, _, rfl, hB, heap_alloc_new w.drew _, hCge, hCm, hsize, rfl⟩⟩, ?_⟩
    · rw [List.length_take, show ∀ a : Array Value, a.toList.length = a.size from fun _ => Array.length_toList, hsize]
      omega
    · rw [List.take_take, Nat.min_eq_left (by omega), Array.toList_append, Array.toList_append, List.append_assoc]
      conv => lhs; rw [← hlt]
      exact List.take_left
  have hxl : xs.length = (rows.length + 1) * 3 := hL1.1
  have ho1 : W1.ownsRow B 98 3 (.slice (some ⟨g, 0, none⟩) rows.length cap) rows.length (cellsOfT3 rows) := by rw [hW1]; exact (own_drew ho).alloc _
  have hg1 : w.grownBy W1 (some g) := by rw [hW1]; exact ⟨rfl, rfl, rfl, by simp, fun k hk _ => Below.heap_alloc w.drew _ k hk⟩
  have hvl : vb < w.heap.size := lt_of_block hv.h
  have hv1 : VBT W1 vb r := ⟨by rw [hW1]; exact (Below.heap_alloc w.drew _ vb hvl).trans hv.h⟩
  have hcp1 : ∀ ty dc, (Builtin.copy_ #[41, 41] ty #[.slice (some ⟨w.heap.size, k * 3, none⟩) (rows.length + 1 - k) dc, .slice (some ⟨vb, 0, none⟩) 1 1]).run Try.prog W1 = .ok (goInt 1) (W1.setCells w.heap.size (k * 3) (t3Cells r)) := fun ty dc =>
    run_copy_k W1 41 41 ty 98 w.heap.size (k * 3) (rows.length + 1 - k) dc ⟨vb, 0, none⟩ 1 1 1 3 (t3Cells r) Try.underlying41 hsz (by simp only [Nat.min_def]; split <;> omega) (by rw [t3Cells_len]) hv1.src (own_there hL1 _ _ (by rw [hxl, t3Cells_len]; omega)) (t3Cells_one r)
  have hL2 := own_sets (t3Cells r) (k * 3) _ _ hL1 (by rw [hxl, t3Cells_len]; omega)
  have ho2 := own_setsOther (b := w.heap.size) (by simp [Value.ownBlock]; omega) (t3Cells r) (k * 3) _ ho1
  have hg2 := grown_new (G := w.heap.size) (Nat.le_refl _) (t3Cells r) (k * 3) _ hg1
  obtain ⟨W2, hW2⟩ : ∃ W2, W2 = W1.setCells w.heap.size (k * 3) (t3Cells r) := ⟨_, rfl⟩
  rw [← hW2] at hcp1 hL2 ho2 hg2
  have hl2 : (setsL xs (k * 3) (t3Cells r)).length = (rows.length + 1) * 3 := by rw [setsL_len]; exact hxl
  have hdl := drop_cellsT rows k
  have hcp2 : ∀ ty dc sc, (Builtin.copy_ #[41, 41] ty #[.slice (some ⟨w.heap.size, (k + 1) * 3, none⟩) (rows.length + 1 - (k + 1)) dc, .slice (some ⟨g, k * 3, none⟩) (rows.length - k) sc]).run Try.prog W2.drew = .ok (goInt ((rows.length - k : Nat) : Int)) (W2.drew.setCells w.heap.size ((k + 1) * 3) (cellsOfT3 (rows.drop k))) := fun ty dc sc =>
    run_copy_k W2.drew 41 41 ty 98 w.heap.size ((k + 1) * 3) (rows.length + 1 - (k + 1)) dc ⟨g, k * 3, none⟩ (rows.length - k) sc (rows.length - k) 3 (cellsOfT3 (rows.drop k)) Try.underlying41 hsz (by simp only [Nat.min_def]; split <;> omega) hdl (own_srcT (own_drew ho2) k (by omega)) (own_there (own_drew hL2) _ _ (by rw [hl2, hdl]; omega)) (cellsOfT3_one _)
  have hL3 := own_sets (cellsOfT3 (rows.drop k)) ((k + 1) * 3) _ _ (own_drew hL2) (by rw [hl2, hdl]; omega)
  rw [ins_freshT rows k r xs (by omega) hxl hxt] at hL3
  have hg3 : w.grownBy (W2.drew.setCells w.heap.size ((k + 1) * 3) (cellsOfT3 (rows.drop k))) (some g) := grown_new (Nat.le_refl _) _ _ _ ⟨hg2.os, hg2.tape, hg2.output, hg2.size, hg2.block⟩
  obtain ⟨W3, hW3⟩ : ∃ W3, W3 = W2.drew.setCells w.heap.size ((k + 1) * 3) (cellsOfT3 (rows.drop k)) := ⟨_, rfl⟩
  rw [← hW3] at hcp2 hL3 hg3
  have HL3 := hide hL3
  have HG3 := hide hg3
  have HC1 := hide hcp1
  have HC2 := hide hcp2
  have HRZ := hide hrz
  unfold maxLen at c3 hCm
  clear hL3 hg3 hcp1 hcp2 hrz hW1 hW2 hW3 hL1 hL2 ho1 ho2 hg1 hg2 hv1 hxt hxl hl2 hdl hold hC hlt ho hv c1 c4 c5 hsz hi92 hz92 hs92 hb92
  generalize cellsOfT3 (insT rows k r) = ys at *
  generalize rows.length = n at *
  have q0 : (0 : Int) ≤ (k : Int) := by omega
  have q1 : (k : Int) ≤ (n : Int) := by omega
  have q2 : ¬ ((k : Int) = (n : Int)) := by omega
  have q3 : (cap : Int) < (n : Int) + 1 := by omega
  have q5 : (0 : Int) ≤ (k : Int) + 1 := by omega
  have q6 : (k : Int) + 1 ≤ (n : Int) + 1 := by omega
  have q7 : (k : Int) ≤ (n : Int) + 1 := by omega
  have q8 : ((k : Int) + 1).toNat = k + 1 := by omega
  have q9 : ¬ C = k + 1 := by omega
  have q10 : ¬ C = k := by omega
  have q10' : ¬ cap = k := by omega
  have q12 : IntKind.i64.wrap ((k : Int) + 1) = (k : Int) + 1 := by rw [IntKind.wrap_i64]; omega
  have q13 : (k : Int) ≤ (cap : Int) := by omega
  have q14 : (n : Int) + 1 - (k : Int) = ((n + 1 - k : Nat) : Int) := by omega
  have q15 : k ≤ n := by omega
  have hc1 := unhide HC1 3 (C - k)
  go_enter Try.func108, Try.ntmps108
  go_wp2_with (first
    | (at_builtin; refine wpList_append_run _ rfl (.tmp 34) (.tmp 39) 41 3 rfl (.slice (some ⟨g, 0, none⟩) k cap) (.int .i64 ((n + 1 - k : Nat) : Int)) rfl (by first | rfl | simp [Act.eval, q14]) (unhide HRZ _) ?_; intro W1' hW1'; obtain rfl := hW1'))
  go_region_law (refine step_copy_run rfl (.tmp 50) (.tmp 53) 41 41 rfl _ _ (by simp [Act.eval, Act.put]; rfl) (by simp [Act.eval, Act.put]; rfl) (unhide HC2 _ _ _) ?_)
  go_wp2_with fail
  go_ret
  exact ⟨w.heap.size, C, rfl, unhide HL3, unhide HG3⟩
theorem insertT_any (B : Nat) (A : Option Addr) (cap k : Nat) (rows : List T3) (r : T3) (vb : Nat) (w : World) (hn : rows.length ≤ 1000) (hk : k ≤ rows.length) (hB : B ≤ w.heap.size) (hvb : ∀ c o, A = some ⟨c, o, none⟩ → vb ≠ c) (ho : w.ownsRow B 98 3 (.slice A rows.length cap) rows.length (cellsOfT3 rows)) (hv : VBT w vb r) :
    Calls Try.prog 108 #[.slice A rows.length cap, .int .i64 (k : Int), .slice (some ⟨vb, 0, none⟩) 1 1] w fun e w' => ∃ g' c', e = .returned (.slice (some ⟨g', 0, none⟩) (rows.length + 1) c') ∧ w'.ownsRow B 98 3 (.slice (some ⟨g', 0, none⟩) (rows.length + 1) c') (rows.length + 1) (cellsOfT3 (insT rows k r)) ∧ w.grownBy w' (Value.slice A rows.length cap).ownBlock := by
  by_cases h : k = rows.length
  · subst h
    rw [insT_end]
    exact insertT_end B A cap rows r vb w hn hB ho hv
  · obtain ⟨g, c, hA, _⟩ := own_pos ho (by omega)
    simp only [Value.slice.injEq, true_and] at hA
    obtain ⟨rfl, rfl⟩ := hA
    by_cases hc : rows.length + 1 ≤ cap
    · exact insertT_shift B g cap k rows r vb w (by omega) hc (hvb g 0 rfl) ho hv
    · exact insertT_grow B g cap k rows r vb w hn (by omega) (by omega) hB ho hv
end Go.Proofs.Ytnbleebilmghcab
namespace Go.Proofs.Ytnbleebilmghcab
open Go Go.RowKit
def takeT : List TabI → RowI → List TabI
  | [], r => [⟨r.has, [r]⟩]
  | t :: l, r => if t.has < r.has then t :: takeT l r else if t.has = r.has then ⟨t.has, t.rows ++ [r]⟩ :: l else ⟨r.has, [r]⟩ :: t :: l
theorem takeT_mem : ∀ (l : List TabI) (r : RowI) (x : TabI), x ∈ takeT l r → x ∈ l ∨ x.has = r.has
  | [], r, x, h => by
    simp only [takeT, List.mem_singleton] at h
    rw [h]; exact .inr rfl
  | t :: l, r, x, h => by
    unfold takeT at h
    split at h
    · rw [List.mem_cons] at h
      rcases h with h | h
      · exact .inl (by rw [h]; simp)
      · rcases takeT_mem l r x h with h | h
        · exact .inl (by simp [h])
        · exact .inr h
    · split at h
      · rename_i e
        rw [List.mem_cons] at h
        rcases h with h | h
        · rw [h]; exact .inr e
        · exact .inl (by simp [h])
      · rw [List.mem_cons] at h
        rcases h with h | h
        · rw [h]; exact .inr rfl
        · exact .inl h
theorem takeT_up : ∀ (l : List TabI) (r : RowI), l.Pairwise (fun a b => a.has < b.has) → (takeT l r).Pairwise (fun a b => a.has < b.has)
  | [], r, _ => by simp [takeT]
  | t :: l, r, h => by
    rw [List.pairwise_cons] at h
    unfold takeT
    split
    · rename_i hlt
      rw [List.pairwise_cons]
      refine ⟨fun x hx => ?_, takeT_up l r h.2⟩
      rcases takeT_mem l r x hx with hx | hx
      · exact h.1 x hx
      · rw [hx]; exact hlt
    · split
      · rw [List.pairwise_cons]
        exact ⟨h.1, h.2⟩
      · rename_i h1 h2
        rw [List.pairwise_cons, List.pairwise_cons]
        refine ⟨fun x hx => ?_, h.1, h.2⟩
        rw [List.mem_cons] at hx
        show r.has < x.has
        rcases hx with rfl | hx
        · omega
        · have := h.1 x hx; omega
theorem takeT_perm : ∀ (l : List TabI) (r : RowI), ((takeT l r).flatMap (·.rows)).Perm ((l.flatMap (·.rows)) ++ [r])
  | [], r => by simp [takeT]
  | t :: l, r => by
    unfold takeT
    split
    · rw [List.flatMap_cons, List.flatMap_cons, List.append_assoc]
      exact (takeT_perm l r).append_left _
    · split
      · rw [List.flatMap_cons, List.flatMap_cons]
        show (t.rows ++ [r] ++ l.flatMap (·.rows)).Perm (t.rows ++ l.flatMap (·.rows) ++ [r])
        rw [List.append_assoc, List.append_assoc]
        exact List.perm_append_comm.append_left _
      · rw [List.flatMap_cons]
        show ([r] ++ (t :: l).flatMap (·.rows)).Perm _
        exact List.perm_append_comm
theorem takeT_each : ∀ (l : List TabI) (r : RowI) (rows : List RowI), l.Pairwise (fun a b => a.has < b.has) → (∀ t ∈ l, t.rows = rows.filter (fun x => x.has == t.has)) → ((∀ t ∈ l, t.has ≠ r.has) → rows.filter (fun x => x.has == r.has) = []) → ∀ t ∈ takeT l r, t.rows = (rows ++ [r]).filter (fun x => x.has == t.has)
  | [], r, rows, _, h, h0, t, ht => by
    simp only [takeT, List.mem_singleton] at ht
    subst ht
    rw [List.filter_append, h0 (fun t ht => by simp at ht)]
    simp
  | s :: l, r, rows, hp, h, h0, t, ht => by
    rw [List.pairwise_cons] at hp
    have other : ∀ x, x ∈ s :: l → x.has ≠ r.has → x.rows = (rows ++ [r]).filter (fun y => y.has == x.has) := fun x hx hne => by
      rw [List.filter_append, ← h x hx]
      have : (r.has == x.has) = false := by simpa using fun e => hne e.symm
      simp [this]
    unfold takeT at ht
    split at ht
    · rename_i hlt
      rw [List.mem_cons] at ht
      rcases ht with rfl | ht
      · exact other t (by simp) (by omega)
      · exact takeT_each l r rows hp.2 (fun t ht => h t (by simp [ht])) (fun hne => h0 (fun x hx => by
          rw [List.mem_cons] at hx
          rcases hx with rfl | hx
          · omega
          · exact hne x hx)) t ht
    · split at ht
      · rename_i h1 h2
        rw [List.mem_cons] at ht
        rcases ht with rfl | ht
        · show s.rows ++ [r] = _
          rw [List.filter_append, ← h s (by simp)]
          simp [h2]
        · exact other t (by simp [ht]) (by have := hp.1 t ht; omega)
      · rename_i h1 h2
        rw [List.mem_cons] at ht
        rcases ht with rfl | ht
        · show [r] = _
          rw [List.filter_append, h0 (fun x hx => by
            rw [List.mem_cons] at hx
            rcases hx with rfl | hx
            · exact h2
            · have := hp.1 x hx; omega)]
          simp
        · refine other t ht ?_
          rw [List.mem_cons] at ht
          rcases ht with rfl | ht
          · exact h2
          · have := hp.1 t ht; omega
theorem takeT_ne : ∀ (l : List TabI) (r : RowI), (∀ t ∈ l, t.rows ≠ []) → ∀ t ∈ takeT l r, t.rows ≠ []
  | [], r, _, t, ht => by
    simp only [takeT, List.mem_singleton] at ht
    subst ht; simp
  | s :: l, r, h, t, ht => by
    unfold takeT at ht
    split at ht
    · rw [List.mem_cons] at ht
      rcases ht with rfl | ht
      · exact h t (by simp)
      · exact takeT_ne l r (fun t ht => h t (by simp [ht])) t ht
    · split at ht
      · rw [List.mem_cons] at ht
        rcases ht with rfl | ht
        · simp
        · exact h t (by simp [ht])
      · rw [List.mem_cons] at ht
        rcases ht with rfl | ht
        · simp
        · exact h t ht
structure Grp (l : List TabI) (rows : List RowI) : Prop where
  up : l.Pairwise (fun a b => a.has < b.has)
  each : ∀ t ∈ l, t.rows = rows.filter (fun x => x.has == t.has)
  ne : ∀ t ∈ l, t.rows ≠ []
  perm : (l.flatMap (·.rows)).Perm rows
theorem Grp.nil : Grp [] [] := ⟨List.Pairwise.nil, fun t ht => by simp at ht, fun t ht => by simp at ht, by simp⟩
theorem Grp.take {l : List TabI} {rows : List RowI} (h : Grp l rows) (r : RowI) : Grp (takeT l r) (rows ++ [r]) := by
  refine ⟨takeT_up l r h.up, takeT_each l r rows h.up h.each ?_, takeT_ne l r h.ne, (takeT_perm l r).trans (h.perm.append_right _)⟩
  intro hne
  rw [List.filter_eq_nil_iff]
  intro x hx
  have hm := h.perm.mem_iff.2 hx
  rw [List.mem_flatMap] at hm
  obtain ⟨t, ht, hxt⟩ := hm
  rw [h.each t ht, List.mem_filter] at hxt
  have e : x.has = t.has := by simpa using hxt.2
  have := hne t ht
  rw [e]; simpa using this
def tabsTo (rows : List RowI) (i : Nat) : List TabI := (rows.take i).foldl takeT []
theorem tabsTo_succ (rows : List RowI) (i : Nat) (h : i < rows.length) : tabsTo rows (i + 1) = takeT (tabsTo rows i) rows[i] := by
  unfold tabsTo
  rw [List.take_succ_eq_append_getElem h, List.foldl_append]
  rfl
theorem tabsTo_grp (rows : List RowI) : ∀ i, i ≤ rows.length → Grp (tabsTo rows i) (rows.take i)
  | 0, _ => Grp.nil
  | i + 1, h => by
    rw [tabsTo_succ rows i (by omega), List.take_succ_eq_append_getElem (by omega)]
    exact (tabsTo_grp rows i (by omega)).take _
theorem takeT_at (l : List TabI) (r : RowI) : ∀ (i : Nat), i ≤ l.length → (∀ x (h : x < l.length), x < i → l[x].has < r.has) → (∀ x (h : x < l.length), i ≤ x → r.has ≤ l[x].has) →
    (∀ (h : i < l.length), l[i].has = r.has → takeT l r = l.set i ⟨r.has, l[i].rows ++ [r]⟩) ∧ ((∀ (h : i < l.length), l[i].has ≠ r.has) → takeT l r = l.take i ++ ⟨r.has, [r]⟩ :: l.drop i) := by
  induction l with
  | nil =>
    intro i hi _ _
    obtain rfl : i = 0 := by simpa using hi
    exact ⟨fun h => by simp at h, fun _ => by simp [takeT]⟩
  | cons t l ih =>
    intro i hi hlo hhi
    match i with
    | 0 =>
      have h0 := hhi 0 (by simp) (Nat.le_refl _)
      simp only [List.getElem_cons_zero] at h0
      refine ⟨fun h e => ?_, fun hne => ?_⟩
      · simp only [List.getElem_cons_zero] at e
        unfold takeT
        rw [if_neg (by omega), if_pos e, e]
        simp
      · have := hne (by simp)
        simp only [List.getElem_cons_zero] at this
        unfold takeT
        rw [if_neg (by omega), if_neg this]
        simp
    | i + 1 =>
      have h0 := hlo 0 (by simp) (by omega)
      simp only [List.getElem_cons_zero] at h0
      obtain ⟨g1, g2⟩ := ih i (by simpa using hi) (fun x h hx => by have := hlo (x + 1) (by simpa using h) (by omega); simpa using this) (fun x h hx => by have := hhi (x + 1) (by simpa using h) (by omega); simpa using this)
      refine ⟨fun h e => ?_, fun hne => ?_⟩
      · simp only [List.getElem_cons_succ] at e ⊢
        unfold takeT
        rw [if_pos h0, g1 (by simpa using h) e]
        simp
      · unfold takeT
        rw [if_pos h0, g2 (fun h => by have := hne (by simpa using h); simpa using this)]
        simp
theorem grp_right {X : Wd} (hr : RightW X) {l : List TabI} (h : Grp l X.rows) : ∀ t ∈ l, TabRight t := fun t ht => by
  have he := h.each t ht
  have hne := h.ne t ht
  have hl60 := (right_hr ((right_iff X).2 hr)).1
  have hmem : ∀ r ∈ t.rows, r ∈ X.rows ∧ r.has = t.has := fun r hr => by
    rw [he, List.mem_filter] at hr
    exact ⟨hr.1, by simpa using hr.2⟩
  have hrv : ∀ r ∈ X.rows, rvB r = true := fun r hr' => by
    obtain ⟨j, hj, rfl⟩ := List.getElem_of_mem hr'
    have := hr.rv j hj
    unfold rowOf at this
    rwa [getD_row' _ _ hj] at this
  have hsort : t.rows.Pairwise (fun a b => a.ix < b.ix) := by rw [he]; exact (right_sorted hr).filter _
  obtain ⟨r, hr0⟩ := List.exists_mem_of_ne_nil _ hne
  refine ⟨?_, List.length_pos_iff.2 hne, ?_, fun r hr => ⟨(hmem r hr).2, hrv r (hmem r hr).1⟩, fun j hj => ?_⟩
  · have h1 := (rv_parts (hrv r (hmem r hr0).1)).1
    rw [(hmem r hr0).2] at h1
    unfold setB
    simpa using h1
  · have : t.rows.length ≤ X.rows.length := by rw [he]; exact List.length_filter_le _ _
    omega
  · rw [getD_row' _ _ (by omega), getD_row' _ _ hj]
    exact (List.pairwise_iff_getElem.1 hsort) j (j + 1) (by omega) hj (by omega)
end Go.Proofs.Ytnbleebilmghcab
namespace Go.Proofs.Ytnbleebilmghcab
open Go Go.RowKit
def Apt (u v : Value) : Prop := u.ownBlock = none ∨ u.ownBlock ≠ v.ownBlock
theorem Apt.symm {u v : Value} (h : Apt u v) : Apt v u := by
  rcases h with h | h
  · cases hv : v.ownBlock with
    | none => exact .inl hv
    | some g => exact .inr (by rw [h, hv]; simp)
  · exact .inr fun e => h e.symm
theorem Apt.nil (v : Value) : Apt (.slice none 0 0) v := .inl rfl
theorem Apt.moved {W : World} {base : Nat} {e : TypeId} {size n : Nat} {u v v' : Value} {xs : List Value} (h : Apt u v) (hu : W.ownsRow base e size u n xs) (hv : v'.ownBlock = v.ownBlock ∨ v'.ownBlock = some W.heap.size) : Apt u v' := by
  rcases hv with hv | hv
  · rcases h with h | h
    · exact .inl h
    · exact .inr (by rw [hv]; exact h)
  · refine .inr fun e => ?_
    rw [hv] at e
    have := (hu.lt _ e).2
    omega
def ncol (h : Int) : Nat := (lstTo h 8).length
structure TblM where
  A : Int → Option Addr × Nat
  C : Int → Option Addr × Nat
  K : Int → Nat → Value
structure TblD where
  hs : List Int
  B : Int → List (Int × Int)
  L : Int → Nat → List Int
def aV (m : TblM) (d : TblD) (h : Int) : Value := .slice (m.A h).1 (d.B h).length (m.A h).2
def cV (m : TblM) (h : Int) : Value := .slice (m.C h).1 (ncol h) (m.C h).2
def tt (m : TblM) (d : TblD) (h : Int) : T3 := ⟨h, (m.A h).1, (d.B h).length, (m.A h).2, (m.C h).1, ncol h, (m.C h).2⟩
structure TblL (base bx : Nat) (T G : Value) (gens : List Int) (m : TblM) (d : TblD) (W : World) : Prop where
  box : W.heap[bx]? = some (.cells #[T, G] 114 (0, 0))
  lo : base ≤ bx
  ownT : W.ownsRow base 98 3 T d.hs.length (cellsOfT3 (d.hs.map (tt m d)))
  ownG : W.ownsRow base 3 1 G gens.length (cellsOfInts gens)
  ownA : ∀ h, W.ownsRow base 50 2 (aV m d h) (d.B h).length (cellsOfBs (d.B h))
  ownC : ∀ h, h ∈ d.hs → W.ownsRow base 38 1 (cV m h) (ncol h) ((List.range (ncol h)).map (m.K h))
  ownK : ∀ h k, W.ownsRow base 3 1 (m.K h k) (d.L h k).length (cellsOfInts (d.L h k))
  sepA : ∀ h h', h ≠ h' → Apt (aV m d h) (aV m d h')
  sepC : ∀ h h', h ∈ d.hs → h' ∈ d.hs → h ≠ h' → Apt (cV m h) (cV m h')
  sepK : ∀ h k h' k', (h ≠ h' ∨ k ≠ k') → Apt (m.K h k) (m.K h' k')
  sepG : ∀ h k, Apt G (m.K h k)
  out : ∀ h, h ∉ d.hs → m.A h = (none, 0) ∧ d.B h = [] ∧ ∀ k, m.K h k = .slice none 0 0
section
variable {base bx : Nat} {T G : Value} {gens : List Int} {m : TblM} {d : TblD} {W W1 : World}
theorem TblL.lt (h : TblL base bx T G gens m d W) : bx < W.heap.size := (Array.getElem?_eq_some_iff.1 h.box).1
theorem TblL.sz (h : TblL base bx T G gens m d W) : base ≤ W.heap.size := Nat.le_trans h.lo (Nat.le_of_lt h.lt)
theorem TblL.below (h : TblL base bx T G gens m d W) (hb : Below W.heap.size W W1) : TblL base bx T G gens m d W1 :=
  ⟨(hb.block bx h.lt).trans h.box, h.lo, own_kept h.ownT hb, own_kept h.ownG hb, fun x => own_kept (h.ownA x) hb, fun x hx => own_kept (h.ownC x hx) hb, fun x k => own_kept (h.ownK x k) hb, h.sepA, h.sepC, h.sepK, h.sepG, h.out⟩
theorem TblL.cells (h : TblL base bx T G gens m d W) : W.cell? ⟨bx, 0, none⟩ = some T ∧ W.cell? ⟨bx, 1, none⟩ = some G := by
  refine ⟨?_, ?_⟩ <;> simp [World.cell?, h.box]
theorem TblL.free (h : TblL base bx T G gens m d W) (i : Nat) : W.frozen? ⟨bx, i, none⟩ = false := by simp [World.frozen?, h.box]
theorem TblL.boxT (h : TblL base bx T G gens m d W) : T.ownBlock ≠ some bx := own_nety h.ownT ⟨_, h.box⟩ (by decide)
end
theorem grown_set1 (w : World) (g j : Nat) (u : Value) : w.grownBy (w.setCell ⟨g, j, none⟩ u) (some g) := ⟨rfl, rfl, rfl, by simp, fun k _ hk => heap_setCell_other w ⟨g, j, none⟩ k u (fun e => hk (by simp [e]))⟩
theorem cells_setA : ∀ (l : List T3) (i : Nat) (hi : i < l.length) (a : Option Addr) (n c : Nat), (cellsOfT3 l).set (i * 3 + 1) (.slice a n c) = cellsOfT3 (l.set i ⟨l[i].h, a, n, c, l[i].C, l[i].m, l[i].d⟩)
  | [], i, hi, _, _, _ => by simp at hi
  | x :: r, 0, _, a, n, c => by simp [cellsOfT3, t3Cells]
  | x :: r, i + 1, hi, a, n, c => by
    have ih := cells_setA r i (by simpa using hi) a n c
    show (Value.int .i64 x.h :: .slice x.a x.n x.c :: .slice x.C x.m x.d :: cellsOfT3 r).set ((i + 1) * 3 + 1) _ = Value.int .i64 x.h :: .slice x.a x.n x.c :: .slice x.C x.m x.d :: cellsOfT3 (r.set i _)
    rw [show (i + 1) * 3 + 1 = i * 3 + 1 + 1 + 1 + 1 by omega]
    simp only [List.set_cons_succ, ih]
    rfl
theorem cellsT_at : ∀ (l : List T3) (j : Nat) (hj : j < l.length), (cellsOfT3 l)[j * 3]? = some (.int .i64 l[j].h) ∧ (cellsOfT3 l)[j * 3 + 1]? = some (.slice l[j].a l[j].n l[j].c) ∧ (cellsOfT3 l)[j * 3 + 2]? = some (.slice l[j].C l[j].m l[j].d)
  | [], j, h => by simp at h
  | x :: r, 0, _ => by simp [cellsOfT3, t3Cells]
  | x :: r, j + 1, h => by
    have ih := cellsT_at r j (by simpa using h)
    have e : cellsOfT3 (x :: r) = Value.int .i64 x.h :: .slice x.a x.n x.c :: .slice x.C x.m x.d :: cellsOfT3 r := rfl
    rw [e, show (j + 1) * 3 = j * 3 + 1 + 1 + 1 by omega, show j * 3 + 1 + 1 + 1 + 1 = (j * 3 + 1) + 1 + 1 + 1 by omega, show j * 3 + 1 + 1 + 1 + 2 = (j * 3 + 2) + 1 + 1 + 1 by omega]
    simpa only [List.getElem?_cons_succ, List.getElem_cons_succ] using ih
theorem map_set_one (f f' : Int → T3) : ∀ (hs : List Int) (i : Nat) (hi : i < hs.length), hs.Nodup → (∀ h, h ≠ hs[i] → f' h = f h) → hs.map f' = (hs.map f).set i (f' hs[i])
  | [], i, hi, _, _ => by simp at hi
  | x :: r, 0, _, hn, h => by
    rw [List.nodup_cons] at hn
    simp only [List.map_cons, List.set_cons_zero, List.getElem_cons_zero, List.cons.injEq, true_and]
    refine List.map_congr_left fun y hy => h y ?_
    intro e
    rw [e] at hy
    exact hn.1 hy
  | x :: r, i + 1, hi, hn, h => by
    rw [List.nodup_cons] at hn
    have hi' : i < r.length := by simpa using hi
    simp only [List.map_cons, List.set_cons_succ, List.getElem_cons_succ, List.cons.injEq]
    refine ⟨h x ?_, map_set_one f f' r i hi' hn.2 (by simpa using h)⟩
    intro e
    simp only [List.getElem_cons_succ] at e
    exact hn.1 (e ▸ List.getElem_mem hi')
def updF {α : Type} (f : Int → α) (x : Int) (v : α) (h : Int) : α := if h = x then v else f h
theorem updF_eq {α : Type} (f : Int → α) (x : Int) (v : α) : updF f x v x = v := if_pos rfl
theorem updF_ne {α : Type} (f : Int → α) {x h : Int} (v : α) (e : h ≠ x) : updF f x v h = f h := if_neg e
def updK {α : Type} (f : Int → Nat → α) (x : Int) (k : Nat) (v : α) (h : Int) (j : Nat) : α := if h = x ∧ j = k then v else f h j
theorem updK_eq {α : Type} (f : Int → Nat → α) (x : Int) (k : Nat) (v : α) : updK f x k v x k = v := if_pos ⟨rfl, rfl⟩
theorem updK_ne {α : Type} (f : Int → Nat → α) {x h : Int} {k j : Nat} (v : α) (e : h ≠ x ∨ j ≠ k) : updK f x k v h j = f h j := if_neg (by rintro ⟨rfl, rfl⟩; simp at e)
section
variable {base bx : Nat} {T G : Value} {gens : List Int} {m : TblM} {d : TblD} {W W2 : World}
theorem TblL.being (h : TblL base bx T G gens m d W) (hn : d.hs.Nodup) {i : Nat} (hi : i < d.hs.length) {x : Int} (hx : d.hs[i] = x) {gt ct : Nat} (hT : T = .slice (some ⟨gt, 0, none⟩) d.hs.length ct) {g cap : Nat} (b : Int × Int)
    (hg : W.grownBy W2 (aV m d x).ownBlock) (ho : W2.ownsRow base 50 2 (.slice (some ⟨g, 0, none⟩) ((d.B x).length + 1) cap) ((d.B x).length + 1) (cellsOfBs (d.B x) ++ [.int .i64 b.1, .int .i64 b.2])) (hm : some g = (aV m d x).ownBlock ∨ g = W.heap.size) :
    TblL base bx T G gens ⟨updF m.A x (some ⟨g, 0, none⟩, cap), m.C, m.K⟩ ⟨d.hs, updF d.B x (d.B x ++ [b]), d.L⟩ (W2.setCell ⟨gt, i * 3 + 1, none⟩ (.slice (some ⟨g, 0, none⟩) ((d.B x).length + 1) cap)) := by
  have hs := grown_set1 W2 gt (i * 3 + 1) (.slice (some ⟨g, 0, none⟩) ((d.B x).length + 1) cap)
  have hTb : T.ownBlock = some gt := by rw [hT]; rfl
  have oT2 := h.ownT.kept hg (own_apart h.ownT (h.ownA x) (by decide))
  have tA : ∀ y, (aV ⟨updF m.A x (some ⟨g, 0, none⟩, cap), m.C, m.K⟩ ⟨d.hs, updF d.B x (d.B x ++ [b]), d.L⟩ y) = if y = x then .slice (some ⟨g, 0, none⟩) ((d.B x).length + 1) cap else aV m d y := fun y => by
    unfold aV
    by_cases e : y = x
    · subst e; simp [updF]
    · simp [updF, e]
  have hmv : (Value.slice (some ⟨g, 0, none⟩) ((d.B x).length + 1) cap).ownBlock = (aV m d x).ownBlock ∨ (Value.slice (some ⟨g, 0, none⟩) ((d.B x).length + 1) cap).ownBlock = some W.heap.size := by
    rcases hm with hm | hm
    · exact .inl hm
    · exact .inr (by rw [hm]; rfl)
  have keepT : ∀ {e : TypeId} {size n : Nat} {v : Value} {xs : List Value}, e ≠ 98 → W2.ownsRow base e size v n xs → (W2.setCell ⟨gt, i * 3 + 1, none⟩ (.slice (some ⟨g, 0, none⟩) ((d.B x).length + 1) cap)).ownsRow base e size v n xs := fun he ho' => ho'.kept hs (by
    have := own_apart ho' oT2 he
    rw [hTb] at this
    exact this)
  refine ⟨?_, h.lo, ?_, keepT (by decide) (h.ownG.kept hg (own_apart h.ownG (h.ownA x) (by decide))), fun y => ?_, fun y hy => keepT (by decide) ((h.ownC y hy).kept hg (own_apart (h.ownC y hy) (h.ownA x) (by decide))), fun y k => keepT (by decide) ((h.ownK y k).kept hg (own_apart (h.ownK y k) (h.ownA x) (by decide))), fun y y' hne => ?_, h.sepC, h.sepK, h.sepG, fun y hy => ?_⟩
  · have hb2 : W2.heap[bx]? = W.heap[bx]? := hg.block bx h.lt (fun e => own_nety (h.ownA x) ⟨_, h.box⟩ (by decide) e.symm)
    rw [heap_setCell_other W2 ⟨gt, i * 3 + 1, none⟩ bx _ (fun e => h.boxT (by rw [hTb]; exact congrArg some (by simpa using e.symm))), hb2]
    exact h.box
  · have e1 : d.hs.map (tt ⟨updF m.A x (some ⟨g, 0, none⟩, cap), m.C, m.K⟩ ⟨d.hs, updF d.B x (d.B x ++ [b]), d.L⟩) = (d.hs.map (tt m d)).set i ⟨x, some ⟨g, 0, none⟩, (d.B x).length + 1, cap, (m.C x).1, ncol x, (m.C x).2⟩ := by
      rw [map_set_one (tt m d) _ d.hs i hi hn (fun y hy => by rw [hx] at hy; simp [tt, updF, hy]), hx]
      simp [tt, updF]
    have e2 := cells_setA (d.hs.map (tt m d)) i (by simpa using hi) (some ⟨g, 0, none⟩) ((d.B x).length + 1) cap
    simp only [List.getElem_map, hx] at e2
    show World.ownsRow _ _ _ _ _ _ (cellsOfT3 (d.hs.map _))
    rw [e1]
    have e3 : (cellsOfT3 (d.hs.map (tt m d))).set (i * 3 + 1) (.slice (some ⟨g, 0, none⟩) ((d.B x).length + 1) cap) = cellsOfT3 ((d.hs.map (tt m d)).set i ⟨x, some ⟨g, 0, none⟩, (d.B x).length + 1, cap, (m.C x).1, ncol x, (m.C x).2⟩) := e2
    rw [← e3]
    rw [hT] at oT2 ⊢
    exact (oT2.stored (i * 3 + 1) _).1
  · rw [tA y]
    by_cases e : y = x
    · subst e
      show World.ownsRow _ _ _ _ _ (updF d.B y (d.B y ++ [b]) y).length (cellsOfBs (updF d.B y (d.B y ++ [b]) y))
      rw [if_pos rfl, updF_eq, List.length_append, List.length_singleton, bs_app]
      exact keepT (by decide) ho
    · show World.ownsRow _ _ _ _ _ (updF d.B x (d.B x ++ [b]) y).length (cellsOfBs (updF d.B x (d.B x ++ [b]) y))
      rw [if_neg e, updF_ne _ _ e]
      exact keepT (by decide) ((h.ownA y).kept hg (h.sepA y x e))
  · rw [tA y, tA y']
    by_cases e : y = x
    · rw [if_pos e, if_neg (fun e' => hne (e.trans e'.symm))]
      exact ((h.sepA y' x (fun e' => hne (e.trans e'.symm))).moved (h.ownA y') hmv).symm
    · rw [if_neg e]
      by_cases e' : y' = x
      · rw [if_pos e']
        exact (h.sepA y x e).moved (h.ownA y) hmv
      · rw [if_neg e']
        exact h.sepA y y' hne
  · have hyx : y ≠ x := fun e => hy (by rw [e, ← hx]; exact List.getElem_mem hi)
    obtain ⟨a1, a2, a3⟩ := h.out y hy
    exact ⟨(updF_ne _ _ hyx).trans a1, (updF_ne _ _ hyx).trans a2, a3⟩
theorem TblL.col (h : TblL base bx T G gens m d W) {x : Int} (hx : x ∈ d.hs) {k : Nat} (hk : k < ncol x) {gc cc : Nat} (hC : cV m x = .slice (some ⟨gc, 0, none⟩) (ncol x) cc) {g cap : Nat} (z : Int)
    (hg : W.grownBy W2 (m.K x k).ownBlock) (ho : W2.ownsRow base 3 1 (.slice (some ⟨g, 0, none⟩) ((d.L x k).length + 1) cap) ((d.L x k).length + 1) (cellsOfInts (d.L x k) ++ [.int .i64 z])) (hm : some g = (m.K x k).ownBlock ∨ g = W.heap.size) :
    TblL base bx T G gens ⟨m.A, m.C, updK m.K x k (.slice (some ⟨g, 0, none⟩) ((d.L x k).length + 1) cap)⟩ ⟨d.hs, d.B, updK d.L x k (d.L x k ++ [z])⟩ (W2.setCell ⟨gc, k, none⟩ (.slice (some ⟨g, 0, none⟩) ((d.L x k).length + 1) cap)) := by
  have hs := grown_set1 W2 gc k (.slice (some ⟨g, 0, none⟩) ((d.L x k).length + 1) cap)
  have hCb : (cV m x).ownBlock = some gc := by rw [hC]; rfl
  have oC2 := (h.ownC x hx).kept hg (own_apart (h.ownC x hx) (h.ownK x k) (by decide))
  have hmv : (Value.slice (some ⟨g, 0, none⟩) ((d.L x k).length + 1) cap).ownBlock = (m.K x k).ownBlock ∨ (Value.slice (some ⟨g, 0, none⟩) ((d.L x k).length + 1) cap).ownBlock = some W.heap.size := by
    rcases hm with hm | hm
    · exact .inl hm
    · exact .inr (by rw [hm]; rfl)
  have keepC : ∀ {e : TypeId} {size n : Nat} {v : Value} {xs : List Value}, e ≠ 38 → W2.ownsRow base e size v n xs → (W2.setCell ⟨gc, k, none⟩ (.slice (some ⟨g, 0, none⟩) ((d.L x k).length + 1) cap)).ownsRow base e size v n xs := fun he ho' => ho'.kept hs (by
    have := own_apart ho' oC2 he
    rw [hCb] at this
    exact this)
  refine ⟨?_, h.lo, keepC (by decide) (h.ownT.kept hg (own_apart h.ownT (h.ownK x k) (by decide))), keepC (by decide) (h.ownG.kept hg (h.sepG x k)), fun y => keepC (by decide) ((h.ownA y).kept hg (own_apart (h.ownA y) (h.ownK x k) (by decide))), fun y hy => ?_, fun y j => ?_, h.sepA, h.sepC, fun y j y' j' hne => ?_, fun y j => ?_, fun y hy => ?_⟩
  · have hb2 : W2.heap[bx]? = W.heap[bx]? := hg.block bx h.lt (fun e => own_nety (h.ownK x k) ⟨_, h.box⟩ (by decide) e.symm)
    rw [heap_setCell_other W2 ⟨gc, k, none⟩ bx _ (fun e => own_nety (h.ownC x hx) ⟨_, h.box⟩ (by decide) (by rw [hCb]; exact congrArg some (by simpa using e.symm))), hb2]
    exact h.box
  · by_cases e : y = x
    · subst e
      have e1 : (List.range (ncol y)).map (updK m.K y k (.slice (some ⟨g, 0, none⟩) ((d.L y k).length + 1) cap) y) = ((List.range (ncol y)).map (m.K y)).set k (.slice (some ⟨g, 0, none⟩) ((d.L y k).length + 1) cap) := by
        refine List.ext_getElem (by simp) fun j h1 h2 => ?_
        rw [List.getElem_set]
        simp only [List.getElem_map, List.getElem_range]
        by_cases ej : k = j
        · subst ej; rw [if_pos rfl, updK_eq]
        · rw [if_neg ej, updK_ne _ _ (.inr (Ne.symm ej))]
      show World.ownsRow _ _ _ _ (cV m y) _ ((List.range (ncol y)).map (updK m.K y k (.slice (some ⟨g, 0, none⟩) ((d.L y k).length + 1) cap) y))
      rw [e1]
      rw [hC] at oC2 ⊢
      exact (oC2.stored k _).1
    · have e1 : (List.range (ncol y)).map (updK m.K x k (.slice (some ⟨g, 0, none⟩) ((d.L x k).length + 1) cap) y) = (List.range (ncol y)).map (m.K y) := List.map_congr_left fun j _ => updK_ne _ _ (.inl e)
      show World.ownsRow _ _ _ _ (cV m y) _ ((List.range (ncol y)).map (updK m.K x k (.slice (some ⟨g, 0, none⟩) ((d.L x k).length + 1) cap) y))
      rw [e1]
      refine ((h.ownC y hy).kept hg (own_apart (h.ownC y hy) (h.ownK x k) (by decide))).kept hs ?_
      have := h.sepC y x hy hx e
      unfold Apt at this
      rw [hCb] at this
      exact this
  · show World.ownsRow _ _ _ _ (updK m.K x k _ y j) (updK d.L x k (d.L x k ++ [z]) y j).length (cellsOfInts (updK d.L x k (d.L x k ++ [z]) y j))
    by_cases e : y = x ∧ j = k
    · obtain ⟨rfl, rfl⟩ := e
      rw [updK_eq, updK_eq, List.length_append, List.length_singleton]
      have : cellsOfInts (d.L y j ++ [z]) = cellsOfInts (d.L y j) ++ [.int .i64 z] := by simp [cellsOfInts]
      rw [this]
      exact keepC (by decide) ho
    · have e' : y ≠ x ∨ j ≠ k := by
        by_cases e1 : y = x
        · exact .inr fun e2 => e ⟨e1, e2⟩
        · exact .inl e1
      rw [updK_ne _ _ e', updK_ne _ _ e']
      exact keepC (by decide) ((h.ownK y j).kept hg (h.sepK y j x k e'))
  · show Apt (updK m.K x k _ y j) (updK m.K x k _ y' j')
    by_cases e : y = x ∧ j = k
    · obtain ⟨rfl, rfl⟩ := e
      have hne' : y' ≠ y ∨ j' ≠ j := by
        rcases hne with h | h
        · exact .inl h.symm
        · exact .inr h.symm
      rw [updK_eq, updK_ne _ _ hne']
      exact ((h.sepK y' j' y j hne').moved (h.ownK y' j') hmv).symm
    · have e1 : y ≠ x ∨ j ≠ k := by
        by_cases e1 : y = x
        · exact .inr fun e2 => e ⟨e1, e2⟩
        · exact .inl e1
      rw [updK_ne _ _ e1]
      by_cases e' : y' = x ∧ j' = k
      · obtain ⟨rfl, rfl⟩ := e'
        rw [updK_eq]
        exact (h.sepK y j y' j' hne).moved (h.ownK y j) hmv
      · have e2 : y' ≠ x ∨ j' ≠ k := by
          by_cases e1 : y' = x
          · exact .inr fun e2 => e' ⟨e1, e2⟩
          · exact .inl e1
        rw [updK_ne _ _ e2]
        exact h.sepK y j y' j' hne
  · show Apt G (updK m.K x k _ y j)
    by_cases e : y = x ∧ j = k
    · obtain ⟨rfl, rfl⟩ := e
      rw [updK_eq]
      exact (h.sepG y j).moved h.ownG hmv
    · rw [updK_ne _ _ (by
        by_cases e1 : y = x
        · exact .inr fun e2 => e ⟨e1, e2⟩
        · exact .inl e1)]
      exact h.sepG y j
  · obtain ⟨a1, a2, a3⟩ := h.out y hy
    exact ⟨a1, a2, fun j => (updK_ne _ _ (.inl (fun e => hy (by subst e; exact hx)))).trans (a3 j)⟩
theorem TblL.lay (h : TblL base bx T G gens m d W) {x : Int} (hx : x ∉ d.hs) {i : Nat} (hi : i ≤ d.hs.length) {gC cC : Nat} (hC : W.ownsRow base 38 1 (.slice (some ⟨gC, 0, none⟩) (ncol x) cC) (ncol x) (List.replicate (ncol x) (.slice none 0 0))) (hCn : ∀ y ∈ d.hs, (cV m y).ownBlock ≠ some gC)
    {T' : Value} (hg : W.grownBy W2 T.ownBlock) (hT : W2.ownsRow base 98 3 T' (d.hs.length + 1) (cellsOfT3 (insT (d.hs.map (tt m d)) i ⟨x, none, 0, 0, some ⟨gC, 0, none⟩, ncol x, cC⟩))) :
    TblL base bx T' G gens ⟨m.A, updF m.C x (some ⟨gC, 0, none⟩, cC), m.K⟩ ⟨d.hs.take i ++ x :: d.hs.drop i, d.B, d.L⟩ (W2.setCell ⟨bx, 0, none⟩ T') := by
  have hs := grown_set1 W2 bx 0 T'
  obtain ⟨o1, o2, o3⟩ := h.out x hx
  have hb2 : W2.heap[bx]? = some (.cells #[T, G] 114 (0, 0)) := (hg.block bx h.lt (fun e => h.boxT e.symm)).trans h.box
  have keepB : ∀ {e : TypeId} {size n : Nat} {v : Value} {xs : List Value}, e ≠ 114 → W2.ownsRow base e size v n xs → (W2.setCell ⟨bx, 0, none⟩ T').ownsRow base e size v n xs := fun he ho' => ho'.kept hs (.inr (own_nety ho' ⟨_, hb2⟩ (Ne.symm he)))
  have hmem : ∀ y, y ∈ d.hs.take i ++ x :: d.hs.drop i ↔ y = x ∨ y ∈ d.hs := fun y => by
    have e : y ∈ d.hs ↔ y ∈ d.hs.take i ∨ y ∈ d.hs.drop i := by
      conv => lhs; rw [← List.take_append_drop i d.hs]
      rw [List.mem_append]
    rw [List.mem_append, List.mem_cons, e]
    constructor
    · rintro (h | h | h)
      · exact .inr (.inl h)
      · exact .inl h
      · exact .inr (.inr h)
    · rintro (h | h | h)
      · exact .inr (.inl h)
      · exact .inl h
      · exact .inr (.inr h)
  have hcv : ∀ y, y ≠ x → cV ⟨m.A, updF m.C x (some ⟨gC, 0, none⟩, cC), m.K⟩ y = cV m y := fun y hy => by simp [cV, updF, hy]
  have hcx : cV ⟨m.A, updF m.C x (some ⟨gC, 0, none⟩, cC), m.K⟩ x = .slice (some ⟨gC, 0, none⟩) (ncol x) cC := by simp [cV, updF]
  have hne : ∀ y, y ∈ d.hs → y ≠ x := fun y hy e => hx (e ▸ hy)
  refine ⟨?_, h.lo, ?_, keepB (by decide) (h.ownG.kept hg (own_apart h.ownG h.ownT (by decide))), fun y => keepB (by decide) ((h.ownA y).kept hg (own_apart (h.ownA y) h.ownT (by decide))), fun y hy => ?_, fun y k => keepB (by decide) ((h.ownK y k).kept hg (own_apart (h.ownK y k) h.ownT (by decide))), h.sepA, fun y y' hy hy' hyy => ?_, h.sepK, h.sepG, fun y hy => ?_⟩
  · have := heap_setCell_same W2 bx 0 #[T, G] 114 T' hb2
    simpa using this
  · have e1 : (d.hs.take i ++ x :: d.hs.drop i).map (tt ⟨m.A, updF m.C x (some ⟨gC, 0, none⟩, cC), m.K⟩ ⟨d.hs.take i ++ x :: d.hs.drop i, d.B, d.L⟩) = insT (d.hs.map (tt m d)) i ⟨x, none, 0, 0, some ⟨gC, 0, none⟩, ncol x, cC⟩ := by
      unfold insT
      rw [List.map_append, List.map_cons, ← List.map_take, ← List.map_drop]
      congr 1
      · refine List.map_congr_left fun y hy => ?_
        simp [tt, updF, hne y (List.mem_of_mem_take hy)]
      · congr 1
        · simp [tt, updF, o1, o2]
        · refine List.map_congr_left fun y hy => ?_
          simp [tt, updF, hne y (List.mem_of_mem_drop hy)]
    have e2 : (d.hs.take i ++ x :: d.hs.drop i).length = d.hs.length + 1 := by simp; omega
    show World.ownsRow _ _ _ _ _ (d.hs.take i ++ x :: d.hs.drop i).length (cellsOfT3 ((d.hs.take i ++ x :: d.hs.drop i).map _))
    rw [e1, e2]
    exact keepB (by decide) hT
  · rcases (hmem y).1 hy with rfl | hy
    · rw [hcx]
      have e1 : (List.range (ncol y)).map (m.K y) = List.replicate (ncol y) (.slice none 0 0) := by
        refine List.ext_getElem (by simp) fun j h1 h2 => ?_
        simp [o3]
      show World.ownsRow _ _ _ _ _ _ ((List.range (ncol y)).map (m.K y))
      rw [e1]
      exact keepB (by decide) (hC.kept hg (own_apart hC h.ownT (by decide)))
    · rw [hcv y (hne y hy)]
      exact keepB (by decide) ((h.ownC y hy).kept hg (own_apart (h.ownC y hy) h.ownT (by decide)))
  · rcases (hmem y).1 hy with e | hy1
    · subst e
      rcases (hmem y').1 hy' with e' | hy2
      · exact absurd e'.symm hyy
      · rw [hcx, hcv y' (hne y' hy2)]
        exact .inr fun e => hCn y' hy2 e.symm
    · rw [hcv y (hne y hy1)]
      rcases (hmem y').1 hy' with e' | hy2
      · subst e'
        rw [hcx]
        exact .inr (hCn y hy1)
      · rw [hcv y' (hne y' hy2)]
        exact h.sepC y y' hy1 hy2 hyy
  · have hy' : y ∉ d.hs := fun e => hy ((hmem y).2 (.inr e))
    exact h.out y hy'
end
end Go.Proofs.Ytnbleebilmghcab
namespace Go.Proofs.Ytnbleebilmghcab
open Go Go.RowKit
theorem wp_region_gho {Γ : Type} {P : Program} {id : Nat} {Q : Exit → Act → World → Prop} {a : Act} {w : World} {ops : List Oper} (V : Γ → Nat → Value → Prop) (D : Γ → (Nat → Bool) → World → Prop) (γ0 : Γ)
    (hm : P.follows .mixedOrders = true) (hb : backB2 ops.toArray = true) (hv : slotsB ops a.tmps.size = true) (hD0 : D γ0 (fun _ => false) w.drew)
    (hstep : ∀ γ i o, ops[i]? = some o → ∀ L ac w1, D γ L w1 → L i = false → (∀ j, edgeB o j = true → L j = true) → (∀ k o', ops[k]? = some o' → L k = true → ∀ j, edgeB o' j = true → L j = true) → (∀ t, (∀ o ∈ ops, o.dst ≠ some t) → ac.tmps.getD t undef = a.tmps.getD t undef) →
      (∀ j t, (ops[j]?).bind (·.dst) = some t → edgeB o j = true → V γ j (ac.tmps.getD t undef)) →
      (Region.wanted o (yielded ops.toArray ac.tmps) = true ∧ o.wp P ac w1 (fun ac' w' => ∃ v γ', ac' = ac.put o.dst v ∧ V γ' i v ∧ D γ' (upd L i) w' ∧ ∀ j u, j ≠ i → L j = true → V γ j u → V γ' j u) Q) ∨ (Region.wanted o (yielded ops.toArray ac.tmps) = false ∧ V γ i undef ∧ D γ (upd L i) w1))
    (hend : ∀ γ (v : Nat → Value) L w1, D γ L w1 → (∀ i, i < ops.length → L i = true) → (∀ i t, (ops[i]?).bind (·.dst) = some t → V γ i (v i)) → Q .normal (putOps ops v a ops.length) w1) : (Code.region id ops.toArray true).wp P Q a w := by
  refine wp_region_inv2 hm (fun L ac w1 => ac.tmps.size = a.tmps.size ∧ ac.defers = a.defers ∧ (∀ t, (∀ o ∈ ops, o.dst ≠ some t) → ac.tmps.getD t undef = a.tmps.getD t undef) ∧ (∀ k o', ops[k]? = some o' → L k = true → ∀ j, edgeB o' j = true → L j = true) ∧ ∃ γ, (∀ i t, (ops[i]?).bind (·.dst) = some t → L i = true → V γ i (ac.tmps.getD t undef)) ∧ D γ L w1) hb ?_ ?_ ?_
  · exact ⟨rfl, rfl, fun _ _ => rfl, fun _ _ _ h => (by cases h), γ0, fun _ _ _ h => (by cases h), hD0⟩
  · rintro L ac w1 i o ⟨h1, h2, h3, hcl, γ, h4, h5⟩ ho hL he
    have ho' : ops[i]? = some o := by simpa using ho
    have hi : i < ops.length := (List.getElem?_eq_some_iff.1 ho').1
    have hod : (ops[i]?).bind (·.dst) = o.dst := by rw [ho']; rfl
    have hed : ∀ j, edgeB o j = true → L j = true := fun j hj => by
      obtain ⟨k, hk, hp⟩ := Array.any_eq_true.1 hj
      rw [Bool.and_eq_true, beq_iff_eq] at hp
      rw [← hp.1]
      exact he _ (Array.getElem_mem hk) hp.2
    have fin : ∀ w' v γ', V γ' i v → D γ' (upd L i) w' → (∀ j u, j ≠ i → L j = true → V γ j u → V γ' j u) → (ac.put o.dst v).tmps.size = a.tmps.size ∧ (ac.put o.dst v).defers = a.defers ∧ (∀ t, (∀ o ∈ ops, o.dst ≠ some t) → (ac.put o.dst v).tmps.getD t undef = a.tmps.getD t undef) ∧ (∀ k o', ops[k]? = some o' → upd L i k = true → ∀ j, edgeB o' j = true → upd L i j = true) ∧ ∃ γ, (∀ j t, (ops[j]?).bind (·.dst) = some t → upd L i j = true → V γ j ((ac.put o.dst v).tmps.getD t undef)) ∧ D γ (upd L i) w' := fun w' v γ' hVv hDw hmono => by
      refine ⟨by rw [put_size]; exact h1, by rw [put_defs]; exact h2, fun t ht => ?_, fun k o' hk hLk j hj => ?_, γ', fun j t hj hLj => ?_, hDw⟩
      · rw [put_get', if_neg (fun e => ht o (List.mem_of_getElem? ho') e.1)]
        exact h3 t ht
      · have hup : ∀ j, L j = true → upd L i j = true := fun j h => by unfold upd; split <;> simp [h]
        by_cases e : k = i
        · subst e
          rw [ho'] at hk
          obtain rfl := Option.some.inj hk
          exact hup j (hed j hj)
        · refine hup j (hcl k o' hk ?_ j hj)
          unfold upd at hLk
          rwa [if_neg e] at hLk
      · obtain ⟨hlt, huni⟩ := slots_spec hv hj
        by_cases e : j = i
        · subst e
          rw [hod] at hj
          rw [put_get', if_pos ⟨hj, by rw [h1]; exact hlt⟩]
          exact hVv
        · rw [put_get', if_neg (fun e' => huni i (Ne.symm e) (by rw [hod]; exact e'.1))]
          have hLj' : L j = true := by
            unfold upd at hLj
            rwa [if_neg e] at hLj
          exact hmono j _ e hLj' (h4 j t hj hLj')
    unfold wpOp
    simp only [ho]
    rcases hstep γ i o ho' L ac w1 h5 hL hed hcl h3 (fun j t hj hje => h4 j t hj (hed j hje)) with ⟨hw, hop⟩ | ⟨hw, hvu, hdu⟩
    · rw [if_pos hw]
      refine .inl (Oper.wp_mono ?_ hop)
      rintro ac' w' ⟨v, γ', rfl, hVv, hDw, hmono⟩
      exact fin w' v γ' hVv hDw hmono
    · rw [if_neg (by rw [hw]; decide)]
      exact fin w1 undef γ hvu hdu (fun _ _ _ _ h => h)
  · rintro L ac w1 ⟨h1, h2, h3, _, γ, h4, h5⟩ hall
    have hall' : ∀ j, j < ops.length → L j = true := fun j hj => hall j (by simpa using hj)
    have hlt : ∀ i t, (ops[i]?).bind (·.dst) = some t → i < ops.length := fun i t hi => by
      rcases Nat.lt_or_ge i ops.length with h | h
      · exact h
      · rw [List.getElem?_eq_none h] at hi; cases hi
    have e : ac = putOps ops (fun i => ac.tmps.getD (dstOf ops i) undef) a ops.length := by
      refine act_ext (by rw [putOps_size]; exact h1) (by rw [putOps_defs]; exact h2) fun t => ?_
      by_cases ht : ∃ k : Nat, (ops[k]?).bind (·.dst) = some t
      · obtain ⟨k, hk⟩ := ht
        obtain ⟨hlt', huni⟩ := slots_spec hv hk
        rw [putOps_in ops _ a k t hk hlt' ops.length (hlt k t hk) (fun j _ hne => huni j hne)]
        simp [dstOf, hk]
      · rw [putOps_out ops _ a t ops.length (fun k _ e => ht ⟨k, e⟩)]
        refine h3 t fun o ho hd => ?_
        obtain ⟨k, hk, hko⟩ := List.getElem_of_mem ho
        exact ht ⟨k, by rw [List.getElem?_eq_getElem hk, hko]; exact hd⟩
    have := hend γ (fun i => ac.tmps.getD (dstOf ops i) undef) L w1 h5 hall' (fun i t hi => by
      have := h4 i t hi (hall' i (hlt i t hi))
      simpa [dstOf, hi] using this)
    rw [← e] at this
    exact this
section
variable {Γ : Type} {P : Program} {o : Oper} {ac : Act} {w1 w2 : World} {V : Γ → Value → Prop} {D : Γ → World → Prop} {M : Γ → Prop} {Q : Exit → Act → World → Prop}
theorem gho_reads (γ : Γ) (v : Value) (hr : (execOp ac.eval o).run P w1 = .ok (.value v) w1) (hV : V γ v) (hD : D γ w1) (hM : M γ) :
    o.wp P ac w1 (fun ac' w' => ∃ v γ', ac' = ac.put o.dst v ∧ V γ' v ∧ D γ' w' ∧ M γ') Q := by
  unfold Oper.wp
  rw [hr]
  exact ⟨v, γ, rfl, hV, hD, hM⟩
theorem gho_makes (γ : Γ) (v : Value) (hr : (execOp ac.eval o).run P w1 = .ok (.value v) w2) (hV : V γ v) (hD : D γ w2) (hM : M γ) :
    o.wp P ac w1 (fun ac' w' => ∃ v γ', ac' = ac.put o.dst v ∧ V γ' v ∧ D γ' w' ∧ M γ') Q := by
  unfold Oper.wp
  rw [hr]
  exact ⟨v, γ, rfl, hV, hD, hM⟩
theorem gho_enters (f : FuncId) (args : Array Value) (hr : (execOp ac.eval o).run P w1 = .ok (.enter f args) w1)
    (hc : Calls P f args w1 fun e w' => ∃ v γ', e = .returned v ∧ V γ' v ∧ D γ' w' ∧ M γ') : o.wp P ac w1 (fun ac' w' => ∃ v γ', ac' = ac.put o.dst v ∧ V γ' v ∧ D γ' w' ∧ M γ') Q := by
  unfold Oper.wp
  rw [hr]
  refine Calls.mono hc fun e w' h => ?_
  obtain ⟨v, γ', rfl, hv, hd, hm⟩ := h
  exact ⟨v, γ', rfl, hv, hd, hm⟩
theorem gho_put1 (γ : Γ) (ty : TypeId) (x y : Operand) (ho : o.op = .store ty x y) (b i : Nat) (v : Value) (hx : ac.eval x = .pointer (some ⟨b, i, none⟩)) (hy : ac.eval y = v) (h1 : v.oneCell' = true) (hi : (P.info? ty).map (·.size) = some 1) (ht : w1.there b i 1) (hV : V γ undef) (hD : D γ (w1.setCell ⟨b, i, none⟩ v)) (hM : M γ) :
    o.wp P ac w1 (fun ac' w' => ∃ v γ', ac' = ac.put o.dst v ∧ V γ' v ∧ D γ' w' ∧ M γ') Q := by
  unfold Oper.wp execOp
  simp only [ho, hx, hy, Instr.storeAt, Instr.sureAddr, Sem.run_bind, Sem.run_pure, Result.andThen_ok, run_store1 w1 b i ty v ht hi h1]
  exact ⟨undef, γ, rfl, hV, hD, hM⟩
theorem gho_append (γ : Γ) (s x : Operand) (t : TypeId) (ho : o.op = .call { callee := .builtin .append, args := #[s, x], argTypes := #[t, t] }) (vs vx v : Value) (hs : ac.eval s = vs) (hx : ac.eval x = vx) (hr : (Builtin.append_ #[t, t] o.type #[vs, vx]).run P w1 = .ok v w2) (hV : V γ v) (hD : D γ w2) (hM : M γ) :
    o.wp P ac w1 (fun ac' w' => ∃ v γ', ac' = ac.put o.dst v ∧ V γ' v ∧ D γ' w' ∧ M γ') Q := by
  unfold Oper.wp execOp
  simp only [ho, resolve, invoke, builtin, Sem.run_bind, Sem.run_pure, Result.andThen_ok, List.map_toArray, List.map_cons, List.map_nil, hs, hx, hr]
  exact ⟨v, γ, rfl, hV, hD, hM⟩
end
end Go.Proofs.Ytnbleebilmghcab
