/- Own, PList, POwn, PBox, PSet, PFit -/
import Derived.WalkKit
import Derived.Maps.AppendAt
import Derived.Test.YtnbleebilmghcabQB
set_option linter.all false
namespace Go.Proofs.Ytnbleebilmghcab
open Go Go.RowKit
section
variable {w : World} {base : Nat} {e : TypeId} {size : Nat} {n : Nat} {xs : List Value}
theorem own_pos {v : Value} (h : w.ownsRow base e size v n xs) (hn : 0 < n) : ∃ g cap, v = .slice (some ⟨g, 0, none⟩) n cap ∧ base ≤ g ∧ g < w.heap.size := by
  rcases h.2 with ⟨_, rfl⟩ | ⟨g, cap, cur, rfl, hb, hg, _⟩
  · omega
  · exact ⟨g, cap, rfl, hb, (Array.getElem?_eq_some_iff.1 hg).1⟩
theorem own_cell {g cap : Nat} (h : w.ownsRow base e size (.slice (some ⟨g, 0, none⟩) n cap) n xs) {j : Nat} {u : Value} (hj : xs[j]? = some u) : w.cell? ⟨g, j, none⟩ = some u := by
  have := h.cells (g := g) rfl j u hj
  have hadd : (⟨g, 0, none⟩ : Addr).add j = ⟨g, j, none⟩ := by unfold Addr.add; split <;> simp_all
  rwa [hadd] at this
theorem own_row {g cap : Nat} (h : w.ownsRow base e size (.slice (some ⟨g, 0, none⟩) n cap) n xs) : ∃ cur, w.heap[g]? = some (.cells cur e (0, 0)) ∧ n ≤ cap ∧ cap ≤ maxLen ∧ cur.size = cap * size ∧ cur.toList.take (n * size) = xs := by
  rcases h.2 with ⟨hv, _⟩ | ⟨g', cap', cur, hv, hb, hg, h1, h2, h3, h4⟩
  · cases hv
  · simp only [Value.slice.injEq, Option.some.injEq, Addr.mk.injEq, and_true, true_and] at hv
    obtain ⟨rfl, rfl⟩ := hv
    exact ⟨cur, hg, h1, h2, h3, h4⟩
theorem own_free {g cap : Nat} (h : w.ownsRow base e size (.slice (some ⟨g, 0, none⟩) n cap) n xs) (j : Nat) : w.frozen? ⟨g, j, none⟩ = false := by
  obtain ⟨cur, hg, _⟩ := own_row h
  simp [World.frozen?, hg]
theorem own_set {g cap : Nat} (h : w.ownsRow base e size (.slice (some ⟨g, 0, none⟩) n cap) n xs) {j : Nat} (hj : j < xs.length) (u : Value) : (w.setCell ⟨g, j, none⟩ u).ownsRow base e size (.slice (some ⟨g, 0, none⟩) n cap) n (xs.set j u) := by
  obtain ⟨cur, hg, h1, h2, h3, h4⟩ := own_row h
  have hb : base ≤ g := (h.lt g rfl).1
  refine ⟨by rw [List.length_set]; exact h.1, .inr ⟨g, cap, cur.setIfInBounds j u, rfl, hb, ?_, h1, h2, by simpa using h3, ?_⟩⟩
  · exact heap_setCell_same w g j cur e u hg
  · rw [Array.toList_setIfInBounds, List.take_set, h4]
theorem own_kept {w1 : World} {v : Value} (h : w.ownsRow base e size v n xs) (hb : Below w.heap.size w w1) : w1.ownsRow base e size v n xs := by
  refine ⟨h.1, ?_⟩
  rcases h.2 with hn | ⟨g, cap, cur, rfl, hb', hgg, rest⟩
  · exact .inl hn
  · refine .inr ⟨g, cap, cur, rfl, hb', ?_, rest⟩
    rw [hb.block g (Array.getElem?_eq_some_iff.1 hgg).1]
    exact hgg
theorem own_apart {e' : TypeId} {size' : Nat} {v v' : Value} {n' : Nat} {xs' : List Value} {base' : Nat} (h : w.ownsRow base e size v n xs) (h' : w.ownsRow base' e' size' v' n' xs') (he : e ≠ e') : v.ownBlock = none ∨ v.ownBlock ≠ v'.ownBlock := by
  rcases h.2 with ⟨rfl, _⟩ | ⟨g, cap, cur, rfl, _, hg, _⟩
  · exact .inl rfl
  · refine .inr fun hc => ?_
    rcases h'.2 with ⟨rfl, _⟩ | ⟨g', cap', cur', rfl, _, hg', _⟩
    · simp [Value.ownBlock] at hc
    · simp only [Value.ownBlock, Option.some.injEq] at hc
      subst hc
      rw [hg] at hg'
      simp only [Option.some.injEq, Obj.cells.injEq] at hg'
      exact he hg'.2.1
end
theorem wpList_append1 {P : Program} (w : World) {ops : Array Oper} {rest : List Oper} {o : Oper} {a : Act} {Q : Exit → Act → World → Prop} (hgd : o.guard = none) (s x : Operand) (t : TypeId)
    (ho : o.op = .call { callee := .builtin .append, args := #[s, x], argTypes := #[t, t] })
    (base : Nat) (e : TypeId) (i : TypeInfo) (z : Value) (size bytes : Nat) (ht : P.underlying t = some (.slice e)) (hi : P.info? e = some i) (hz : i.zero = some z)
    (hsize : i.size = size) (hby : i.bytes = bytes) (hzs : z.cells.size = size) (hsz : 0 < size)
    (v : Value) (n : Nat) (xs : List Value) (hs : a.eval s = v) (hown : w.ownsRow base e size v n xs)
    (ad : Addr) (m c : Nat) (news : List Value) (hx : a.eval x = .slice (some ad) m c) (hl : news.length = m * size) (hnews : ∀ j u, news[j]? = some u → w.cell? (ad.add j) = some u) (h1 : ∀ u ∈ news, u.oneCell' = true)
    (h63 : n + m ≤ maxLen) (hbytes : (n + m) * bytes ≤ 140737488355328) (hbase : base ≤ w.heap.size) (hm : 0 < m)
    (h : ∀ g cap w', w'.ownsRow base e size (.slice (some ⟨g, 0, none⟩) (n + m) cap) (n + m) (xs ++ news) → w.grownBy w' v.ownBlock → (some g = v.ownBlock ∨ g = w.heap.size) → wpList P ops Q rest (a.put o.dst (.slice (some ⟨g, 0, none⟩) (n + m) cap)) w') : wpList P ops Q (o :: rest) a w := by
  refine wpList_append_own_at w hgd s x t ho base e i z size bytes ht hi hz hsize hby hzs hsz v n xs hs hown ad m c news hx hl hnews h1 h63 hbytes hbase ?_
  intro v' w' h2 h3 _ h5
  obtain ⟨g, cap, rfl, _, _⟩ := own_pos h2 (by omega)
  refine h g cap w' h2 h3 ?_
  rcases h5 with h5 | h5
  · exact .inl h5
  · right; simpa [Value.ownBlock] using h5
theorem cell_new (w : World) (u : Value) (t : TypeId) : ∀ j x, [u][j]? = some x → (w.alloc (.cells #[u] t)).cell? ((⟨w.heap.size, 0, none⟩ : Addr).add j) = some x := by
  intro j x hj
  match j, hj with
  | 0, hj => simp at hj; subst hj; simp [Addr.add]
theorem grown_below {w w' : World} {row : Option Nat} {B : Nat} (h : w.grownBy w' row) (hr : ∀ k, row = some k → B ≤ k) (hB : B ≤ w.heap.size) : Below B w w' := (Below.refl B w).grown h hB hr
end Go.Proofs.Ytnbleebilmghcab
namespace Go.Proofs.Ytnbleebilmghcab
open Go Go.RowKit
def dR : RowI := ⟨0, 0, 0, fun _ => 0⟩
def rowCells (x : RowI) : List Value := [.int .i64 x.ix, .int .i64 x.gen, .int .i64 x.has, .int .i64 (x.v 0), .int .i64 (x.v 1), .int .i64 (x.v 2), .int .i64 (x.v 3), .int .i64 (x.v 4), .int .i64 (x.v 5), .int .i64 (x.v 6), .int .i64 (x.v 7)]
def cellsOfRows (rows : List RowI) : List Value := rows.flatMap rowCells
def cellsOfInts (l : List Int) : List Value := l.map fun x => Value.int .i64 x
def RowsL (w : World) (A : Option Addr) (rows : List RowI) : Prop := RowsAt w A rows.length (fun j => rows.getD j dR)
def IntsL (w : World) (G : Option Addr) (l : List Int) : Prop := IntsAt w G l.length (fun j => l.getD j 0)
theorem RowsL.below {w w1 : World} {A : Option Addr} {rows : List RowI} (h : RowsL w A rows) (hb : Below w.heap.size w w1) : RowsL w1 A rows := RowsAt.below h hb
theorem IntsL.below {w w1 : World} {G : Option Addr} {l : List Int} (h : IntsL w G l) (hb : Below w.heap.size w w1) : IntsL w1 G l := IntsAt.below h hb
theorem rowCells_len (x : RowI) : (rowCells x).length = 11 := rfl
theorem cellsOfRows_len : ∀ rows : List RowI, (cellsOfRows rows).length = rows.length * 11
  | [] => rfl
  | x :: r => by
    have := cellsOfRows_len r
    unfold cellsOfRows at this ⊢
    rw [List.flatMap_cons, List.length_append, rowCells_len, this, List.length_cons]; omega
theorem cellsOfInts_len (l : List Int) : (cellsOfInts l).length = l.length * 1 := by simp [cellsOfInts]
theorem cellsOfRows_at : ∀ (rows : List RowI) (j i : Nat), j < rows.length → i < 11 → (cellsOfRows rows)[j * 11 + i]? = (rowCells (rows.getD j dR))[i]?
  | [], j, i, h, _ => by simp at h
  | x :: r, 0, i, _, hi => by
    unfold cellsOfRows
    rw [List.flatMap_cons, List.getElem?_append_left (by rw [rowCells_len]; omega)]
    simp
  | x :: r, j + 1, i, h, hi => by
    have := cellsOfRows_at r j i (by simpa using h) hi
    unfold cellsOfRows at this ⊢
    rw [List.flatMap_cons, List.getElem?_append_right (by rw [rowCells_len]; omega), rowCells_len, show (j + 1) * 11 + i - 11 = j * 11 + i by omega, this]
    simp
theorem cellsOfRows_one (rows : List RowI) : ∀ u ∈ cellsOfRows rows, u.oneCell' = true := by
  intro u hu
  unfold cellsOfRows at hu
  obtain ⟨x, _, hx⟩ := List.mem_flatMap.1 hu
  simp only [rowCells, List.mem_cons, List.not_mem_nil, or_false] at hx
  rcases hx with rfl | rfl | rfl | rfl | rfl | rfl | rfl | rfl | rfl | rfl | rfl <;> rfl
theorem cellsOfInts_one (l : List Int) : ∀ u ∈ cellsOfInts l, u.oneCell' = true := by
  intro u hu
  obtain ⟨x, _, rfl⟩ := List.mem_map.1 hu
  rfl
theorem add_off (b off j : Nat) : (⟨b, off, none⟩ : Addr).add j = ⟨b, off + j, none⟩ := by unfold Addr.add; split <;> simp_all
theorem rowAt_iff (w : World) (b o : Nat) (x : RowI) : RowAt w b o x ↔ ∀ i u, (rowCells x)[i]? = some u → w.cell? ⟨b, o + i, none⟩ = some u := by
  constructor
  · intro h i u hu
    have hi : i < 11 := by
      by_cases hh : i < 11
      · exact hh
      · rw [List.getElem?_eq_none (by rw [rowCells_len]; omega)] at hu; cases hu
    have v := h.v
    simp only [Nat.add_assoc] at v
    rcases (by omega : i = 0 ∨ i = 1 ∨ i = 2 ∨ i = 3 ∨ i = 4 ∨ i = 5 ∨ i = 6 ∨ i = 7 ∨ i = 8 ∨ i = 9 ∨ i = 10) with rfl | rfl | rfl | rfl | rfl | rfl | rfl | rfl | rfl | rfl | rfl <;> simp [rowCells] at hu <;> subst hu
    · exact h.c0
    · exact h.c1
    · exact h.c2
    · exact v 0 (by omega)
    · exact v 1 (by omega)
    · exact v 2 (by omega)
    · exact v 3 (by omega)
    · exact v 4 (by omega)
    · exact v 5 (by omega)
    · exact v 6 (by omega)
    · exact v 7 (by omega)
  · intro h
    refine ⟨h 0 _ rfl, h 1 _ rfl, h 2 _ rfl, fun k hk => ?_⟩
    rw [show o + 3 + k = o + (3 + k) by omega]
    refine h (3 + k) _ ?_
    rcases (by omega : k = 0 ∨ k = 1 ∨ k = 2 ∨ k = 3 ∨ k = 4 ∨ k = 5 ∨ k = 6 ∨ k = 7) with rfl | rfl | rfl | rfl | rfl | rfl | rfl | rfl <;> rfl
def Copies (w : World) (A : Option Addr) (n size : Nat) (xs : List Value) : Prop := xs.length = n * size ∧ (∀ u ∈ xs, u.oneCell' = true) ∧ (n = 0 ∨ ∃ ad, A = some ad ∧ ∀ j u, xs[j]? = some u → w.cell? (ad.add j) = some u)
theorem RowsL.copies {w : World} {A : Option Addr} {rows : List RowI} (h : RowsL w A rows) : Copies w A rows.length 11 (cellsOfRows rows) := by
  refine ⟨cellsOfRows_len rows, cellsOfRows_one rows, ?_⟩
  by_cases h0 : rows.length = 0
  · exact .inl h0
  · right
    obtain ⟨b, off, hA, _⟩ := h 0 (by omega)
    refine ⟨⟨b, off, none⟩, hA, fun j u hu => ?_⟩
    have hj : j < rows.length * 11 := by
      by_cases hh : j < rows.length * 11
      · exact hh
      · rw [List.getElem?_eq_none (by rw [cellsOfRows_len]; omega)] at hu; cases hu
    obtain ⟨b', off', hA', hr⟩ := h (j / 11) (by omega)
    rw [hA] at hA'
    simp only [Option.some.injEq, Addr.mk.injEq, and_true] at hA'
    obtain ⟨rfl, rfl⟩ := hA'
    have := (rowAt_iff _ _ _ _).1 hr (j % 11) u (by rw [← cellsOfRows_at rows (j / 11) (j % 11) (by omega) (by omega)]; rw [show j / 11 * 11 + j % 11 = j by omega]; exact hu)
    rw [add_off, ← this]
    congr 2
    omega
theorem IntsL.copies {w : World} {G : Option Addr} {l : List Int} (h : IntsL w G l) : Copies w G l.length 1 (cellsOfInts l) := by
  refine ⟨cellsOfInts_len l, cellsOfInts_one l, ?_⟩
  by_cases h0 : l.length = 0
  · exact .inl h0
  · right
    obtain ⟨b, off, hA, _⟩ := h 0 (by omega)
    refine ⟨⟨b, off, none⟩, hA, fun j u hu => ?_⟩
    have hj : j < l.length := by
      by_cases hh : j < l.length
      · exact hh
      · rw [List.getElem?_eq_none (by rw [cellsOfInts_len]; omega)] at hu; cases hu
    obtain ⟨b', off', hA', hr⟩ := h j hj
    rw [hA] at hA'
    simp only [Option.some.injEq, Addr.mk.injEq, and_true] at hA'
    obtain ⟨rfl, rfl⟩ := hA'
    rw [add_off, hr]
    unfold cellsOfInts at hu
    rw [List.getElem?_map, List.getElem?_eq_getElem hj] at hu
    dsimp only
    rw [List.getD_eq_getElem?_getD, List.getElem?_eq_getElem hj]
    simpa using hu
theorem rowsL_own {W : World} {base : Nat} {v : Value} {rows : List RowI} (h : W.ownsRow base 53 11 v rows.length (cellsOfRows rows)) : ∃ A cap, v = .slice A rows.length cap ∧ RowsL W A rows := by
  by_cases h0 : 0 < rows.length
  · obtain ⟨g, cap, rfl, _, _⟩ := own_pos h h0
    refine ⟨some ⟨g, 0, none⟩, cap, rfl, fun j hj => ⟨g, 0, rfl, ?_⟩⟩
    refine (rowAt_iff _ _ _ _).2 fun i u hu => ?_
    have hi : i < 11 := by
      by_cases hh : i < 11
      · exact hh
      · rw [List.getElem?_eq_none (by rw [rowCells_len]; omega)] at hu; cases hu
    rw [Nat.zero_add]
    exact own_cell h (by rw [cellsOfRows_at rows j i hj hi]; exact hu)
  · obtain rfl : rows = [] := List.eq_nil_of_length_eq_zero (by omega)
    rcases h.2 with ⟨rfl, _⟩ | ⟨g, cap, cur, rfl, _⟩
    · exact ⟨none, 0, rfl, fun j hj => by simp at hj⟩
    · exact ⟨_, cap, rfl, fun j hj => by simp at hj⟩
theorem intsL_own {W : World} {base : Nat} {v : Value} {l : List Int} (h : W.ownsRow base 3 1 v l.length (cellsOfInts l)) : ∃ A cap, v = .slice A l.length cap ∧ IntsL W A l := by
  by_cases h0 : 0 < l.length
  · obtain ⟨g, cap, rfl, _, _⟩ := own_pos h h0
    refine ⟨some ⟨g, 0, none⟩, cap, rfl, fun j hj => ⟨g, 0, rfl, ?_⟩⟩
    rw [Nat.zero_add]
    refine own_cell h ?_
    unfold cellsOfInts
    dsimp only
    rw [List.getElem?_map, List.getElem?_eq_getElem hj, List.getD_eq_getElem?_getD, List.getElem?_eq_getElem hj]
    rfl
  · obtain rfl : l = [] := List.eq_nil_of_length_eq_zero (by omega)
    rcases h.2 with ⟨rfl, _⟩ | ⟨g, cap, cur, rfl, _⟩
    · exact ⟨none, 0, rfl, fun j hj => by simp at hj⟩
    · exact ⟨_, cap, rfl, fun j hj => by simp at hj⟩
theorem wp_append_copy {P : Program} (w : World) {o : Oper} {a : Act} {K : Act → World → Prop} {Q : Exit → Act → World → Prop} (s x : Operand) (t : TypeId)
    (ho : o.op = .call { callee := .builtin .append, args := #[s, x], argTypes := #[t, t] })
    (base : Nat) (e : TypeId) (i : TypeInfo) (z : Value) (size bytes : Nat) (ht : P.underlying t = some (.slice e)) (hi : P.info? e = some i) (hz : i.zero = some z)
    (hsize : i.size = size) (hby : i.bytes = bytes) (hzs : z.cells.size = size) (hsz : 0 < size)
    (hs : a.eval s = .slice none 0 0) (A : Option Addr) (n c : Nat) (xs : List Value) (hx : a.eval x = .slice A n c) (hc : Copies w A n size xs)
    (h63 : n ≤ maxLen) (hbytes : n * bytes ≤ 140737488355328) (hbase : base ≤ w.heap.size)
    (h : ∀ v' w', w'.ownsRow base e size v' n xs → w.grownBy w' none → K (a.put o.dst v') w') : o.wp P a w K Q := by
  obtain ⟨h1, h2, h3⟩ := hc
  rcases h3 with rfl | ⟨ad, rfl, h3⟩
  · have hx0 : xs = [] := List.eq_nil_of_length_eq_zero (by omega)
    subst hx0
    have hr : ∀ ty, (Builtin.append_ #[t, t] ty #[.slice none 0 0, .slice A 0 c]).run P w = .ok (.slice none 0 0) w := fun ty => by
      cases A <;> simp [Builtin.append_, run_underlying ht, sizeOf, typeInfo, hi, Builtin.lenOf, Builtin.firstCells, loadCells, loadCellsFrom]
    unfold Oper.wp execOp
    simp only [ho, resolve, invoke, builtin, Sem.run_bind, Sem.run_pure, Result.andThen_ok, List.map_toArray, List.map_cons, List.map_nil, hs, hx, hr]
    exact h _ _ (World.ownsRow_nil _ _ _ _) (World.grownBy.refl _ _)
  · refine wp_append_own w s x t ho base e i z size bytes ht hi hz hsize hby hzs hsz (.slice none 0 0) 0 [] hs (World.ownsRow_nil _ _ _ _) ad n c xs hx h1 h3 h2 (by omega) (by rw [Nat.zero_add]; exact hbytes) hbase fun v' w' h4 h5 _ => ?_
    rw [Nat.zero_add, List.nil_append] at h4
    exact h v' w' h4 h5
end Go.Proofs.Ytnbleebilmghcab
namespace Go.Proofs.Ytnbleebilmghcab
open Go Go.RowKit
attribute [local go_sem ↓] Go.wp_at_zero Go.wp_at_succ
theorem info61 : (Try.prog.info? 53).map (fun i => (i.zero, i.size, i.bytes)) = some (some (.agg #[.int .i64 0, .int .i64 0, .int .i64 0, .int .i64 0, .int .i64 0, .int .i64 0, .int .i64 0, .int .i64 0, .int .i64 0, .int .i64 0, .int .i64 0]), 11, 88) := by kernel_rfl
theorem info3 : (Try.prog.info? 3).map (fun i => (i.zero, i.size, i.bytes)) = some (some (.int .i64 0), 1, 8) := by kernel_rfl
theorem setc_same {w : World} {a : Addr} {v u : Value} (h : w.cell? a = some u) : (w.setCell a v).cell? a = some v := World.cell?_setCell_same w a v h
theorem setc_other {w : World} {a b : Addr} {v u : Value} (hn : a ≠ b) (h : w.cell? b = some u) : (w.setCell a v).cell? b = some u := (World.cell?_setCell_other w a b v hn).trans h
structure OW (w : World) (A : Option Addr) (n cap : Nat) (G : Option Addr) (gn gcap : Nat) (W : World) : Prop where
  bel : Below w.heap.size w W
  sz : w.heap.size + 2 ≤ W.heap.size
  r0 : W.cell? ⟨w.heap.size, 0, none⟩ = some (.slice A n cap)
  r1 : W.cell? ⟨w.heap.size, 1, none⟩ = some (.slice G gn gcap)
  t0 : (W.cell? ⟨w.heap.size + 1, 0, none⟩).isSome = true
  t1 : (W.cell? ⟨w.heap.size + 1, 1, none⟩).isSome = true
  f : ∀ i, W.frozen? ⟨w.heap.size + 1, i, none⟩ = false
theorem OW.keep {w W W1 : World} {A : Option Addr} {n cap : Nat} {G : Option Addr} {gn gcap : Nat} (h : OW w A n cap G gn gcap W) (hb : Below (w.heap.size + 2) W W1) : OW w A n cap G gn gcap W1 :=
  ⟨h.bel.trans (hb.mono (by omega)), Nat.le_trans h.sz hb.size, (hb.cell (p := ⟨w.heap.size, 0, none⟩) (by simp)).trans h.r0, (hb.cell (p := ⟨w.heap.size, 1, none⟩) (by simp)).trans h.r1,
    by rw [hb.cell (p := ⟨w.heap.size + 1, 0, none⟩) (by simp)]; exact h.t0, by rw [hb.cell (p := ⟨w.heap.size + 1, 1, none⟩) (by simp)]; exact h.t1, fun i => (hb.frozen (p := ⟨w.heap.size + 1, i, none⟩) (by simp)).trans (h.f i)⟩
theorem OW.grown {w W W1 : World} {A : Option Addr} {n cap : Nat} {G : Option Addr} {gn gcap : Nat} (h : OW w A n cap G gn gcap W) (hg : W.grownBy W1 none) : OW w A n cap G gn gcap W1 :=
  h.keep ((Below.refl _ _).grown hg h.sz (fun k hk => by cases hk))
theorem OW.start (w : World) (A : Option Addr) (n cap : Nat) (G : Option Addr) (gn gcap : Nat) : OW w A n cap G gn gcap ((w.alloc (.cells #[.slice A n cap, .slice G gn gcap] 40)).alloc (.cells #[.slice none 0 0, .slice none 0 0] 40)) := by
  obtain ⟨w1, h1⟩ : ∃ W, W = w.alloc (.cells #[.slice A n cap, .slice G gn gcap] 40) := ⟨_, rfl⟩
  have z1 : w1.heap.size = w.heap.size + 1 := by rw [h1]; simp
  have b1 : Below w.heap.size w w1 := by rw [h1]; exact (Below.refl _ _).alloc (Nat.le_refl _) _
  have e0 : w1.cell? ⟨w.heap.size, 0, none⟩ = some (.slice A n cap) := by rw [h1]; simp
  have e1 : w1.cell? ⟨w.heap.size, 1, none⟩ = some (.slice G gn gcap) := by rw [h1]; simp
  rw [← h1]
  clear h1
  have b2 : Below w1.heap.size w1 (w1.alloc (.cells #[.slice none 0 0, .slice none 0 0] 40)) := (Below.refl _ _).alloc (Nat.le_refl _) _
  refine ⟨b1.trans (b2.mono b1.size), by simp; omega, keep_below b2 e0, keep_below b2 e1, ?_, ?_, fun i => ?_⟩ <;> rw [← z1] <;> simp [go_sem]
structure Dep (L : Nat → Bool) : Prop where
  d1 : L 1 = true → L 0 = true
  d2 : L 2 = true → L 1 = true
  d4 : L 4 = true → L 3 = true
  d5 : L 5 = true → L 4 = true
theorem upd_imp {L : Nat → Bool} {i j k : Nat} (h1 : L j = true → L k = true) (h2 : i = j → L k = true) : upd L i j = true → upd L i k = true := by
  intro h
  unfold upd at h ⊢
  by_cases hk : k = i
  · simp [hk]
  · by_cases hj : j = i
    · simp [hk, h2 hj.symm]
    · simp [hj] at h; simp [hk, h1 h]
theorem Dep.upd {L : Nat → Bool} (h : Dep L) (i : Nat) (h1 : i = 1 → L 0 = true) (h2 : i = 2 → L 1 = true) (h4 : i = 4 → L 3 = true) (h5 : i = 5 → L 4 = true) : Dep (upd L i) :=
  ⟨upd_imp h.d1 h1, upd_imp h.d2 h2, upd_imp h.d4 h4, upd_imp h.d5 h5⟩
def OI (w : World) (A : Option Addr) (cap : Nat) (rows : List RowI) (G : Option Addr) (gcap : Nat) (gens : List Int) (L : Nat → Bool) (ac : Act) (w1 : World) : Prop :=
  ∃ x3 x4 x5 x6 x7 x8 x9 : Value, ac = ⟨#[.agg #[.slice A rows.length cap, .slice G gens.length gcap], .pointer (some ⟨w.heap.size, 0, none⟩), .pointer (some ⟨w.heap.size + 1, 0, none⟩), x3, x4, x5, x6, x7, x8, x9], []⟩ ∧
    (L 0 = true → x3 = .pointer (some ⟨w.heap.size, 0, none⟩)) ∧ (L 1 = true → x4 = .slice A rows.length cap) ∧ (L 2 = true → w1.ownsRow (w.heap.size + 2) 53 11 x5 rows.length (cellsOfRows rows)) ∧
    (L 3 = true → x6 = .pointer (some ⟨w.heap.size, 1, none⟩)) ∧ (L 4 = true → x7 = .slice G gens.length gcap) ∧ (L 5 = true → w1.ownsRow (w.heap.size + 2) 3 1 x8 gens.length (cellsOfInts gens)) ∧
    (L 6 = true → x9 = .agg #[x5, x8] ∧ L 2 = true ∧ L 5 = true) ∧
    (L 7 = true → w1.cell? ⟨w.heap.size + 1, 0, none⟩ = some x5 ∧ w1.cell? ⟨w.heap.size + 1, 1, none⟩ = some x8 ∧ ∀ j, j < 7 → L j = true) ∧
    OW w A rows.length cap G gens.length gcap w1 ∧ Dep L
theorem upd_ne {L : Nat → Bool} {i j : Nat} (h : j ≠ i) : upd L i j = L j := if_neg h
theorem upd_eq {L : Nat → Bool} {i : Nat} : upd L i i = true := if_pos rfl
theorem upd_no {L : Nat → Bool} {i j : Nat} (h : L j = false) (hi : j ≠ i) {P : Prop} : upd L i j = true → P := fun k => by rw [upd_ne hi, h] at k; cases k
theorem upd_of {L : Nat → Bool} {i j : Nat} (hi : j ≠ i) {P : Prop} (f : L j = true → P) : upd L i j = true → P := fun k => f (by rwa [upd_ne hi] at k)
theorem own_one {W : World} {base : Nat} {e : TypeId} {size n : Nat} {v : Value} {xs : List Value} (h : W.ownsRow base e size v n xs) : ∃ A c, v = .slice A n c := by
  rcases h.2 with ⟨rfl, rfl⟩ | ⟨g, cap, cur, rfl, _⟩
  · exact ⟨none, 0, rfl⟩
  · exact ⟨_, cap, rfl⟩
theorem own_setsBelow {base b : Nat} {e : TypeId} {size n : Nat} {v : Value} {xs : List Value} (hb : b < base) : ∀ (vs : List Value) (o : Nat) (W : World), W.ownsRow base e size v n xs → (W.setCells b o vs).ownsRow base e size v n xs
  | [], _, _, h => h
  | u :: r, o, _, h => own_setsBelow hb r (o + 1) _ (ownsRow_setCell_below h (a := ⟨b, o, none⟩) hb u)
set_option maxRecDepth 8000 in
set_option maxHeartbeats 2000000 in
theorem own_any (A : Option Addr) (cap : Nat) (rows : List RowI) (G : Option Addr) (gcap : Nat) (gens : List Int) (w : World) (hn : rows.length * 88 ≤ 140737488355328) (hgn : gens.length * 8 ≤ 140737488355328) (hR : RowsL w A rows) (hG : IntsL w G gens) :
    Calls Try.prog 84 #[worldV A rows.length cap G gens.length gcap] w fun e w' => ∃ v5 v8, e = .returned (.agg #[v5, v8]) ∧ w'.ownsRow (w.heap.size + 2) 53 11 v5 rows.length (cellsOfRows rows) ∧ w'.ownsRow (w.heap.size + 2) 3 1 v8 gens.length (cellsOfInts gens) ∧ Below w.heap.size w w' := by
  obtain ⟨i61, hi61, hz61, hs61, hb61⟩ := info_parts info61
  obtain ⟨i3, hi3, hz3, hs3, hb3⟩ := info_parts info3
  have hO := OW.start w A rows.length cap G gens.length gcap
  unfold worldV
  go_enter Try.func84, Try.ntmps84
  go_wp2
  rename_i Q1 K1 hK1
  refine wp_region_inv (by kernel_rfl) (OI w A cap rows G gcap gens) (by kernel_rfl) ?start ?step ?fin
  case start => exact ⟨_, _, _, _, _, _, _, rfl, by simp, by simp, by simp, by simp, by simp, by simp, by simp, by simp, hO.keep ((Below.refl _ _).drew), ⟨by simp, by simp, by simp, by simp⟩⟩
  case step =>
    clear hK1 hO
    rintro L ac w1 i o ⟨x3, x4, x5, x6, x7, x8, x9, rfl, f0, f1, f2, f3, f4, f5, f6, f7, hw, hd⟩ ho hL he
    have h7 : i ≠ 7 → L 7 = false := fun hi => by
      cases h : L 7
      · rfl
      · have hlt : i < 8 := by
          have := Array.getElem?_eq_some_iff.1 ho
          obtain ⟨h1, _⟩ := this
          simpa using h1
        rw [(f7 h).2.2 i (by omega)] at hL; cases hL
    have r0 := hw.r0
    have r1 := hw.r1
    match i, ho with
    | 0, ho =>
      have ho' := ho
      simp at ho'
      subst ho'
      refine wpOp_of ho rfl ?_
      simp [go_sem]
      exact ⟨_, _, _, _, _, _, _, rfl, fun _ => rfl, upd_of (by omega) f1, upd_of (by omega) f2, upd_of (by omega) f3, upd_of (by omega) f4, upd_of (by omega) f5, upd_of (by omega) (fun h => ⟨(f6 h).1, by rw [upd_ne (by omega)]; exact (f6 h).2.1, by rw [upd_ne (by omega)]; exact (f6 h).2.2⟩), upd_no (h7 (by omega)) (by omega), hw, hd.upd 0 (by omega) (by omega) (by omega) (by omega)⟩
    | 1, ho =>
      have ho' := ho
      simp at ho'
      subst ho'
      obtain rfl := f0 (he ⟨0, .data⟩ (by simp) rfl)
      refine wpOp_of ho rfl ?_
      simp [go_sem, r0]
      exact ⟨_, _, _, _, _, _, _, rfl, upd_of (by omega) f0, fun _ => rfl, upd_of (by omega) f2, upd_of (by omega) f3, upd_of (by omega) f4, upd_of (by omega) f5, upd_of (by omega) (fun h => ⟨(f6 h).1, by rw [upd_ne (by omega)]; exact (f6 h).2.1, by rw [upd_ne (by omega)]; exact (f6 h).2.2⟩), upd_no (h7 (by omega)) (by omega), hw, hd.upd 1 (fun _ => he ⟨0, .data⟩ (by simp) rfl) (by omega) (by omega) (by omega)⟩
    | 2, ho =>
      have ho' := ho
      simp at ho'
      subst ho'
      obtain rfl := f1 (he ⟨1, .data⟩ (by simp) rfl)
      refine wpOp_of ho rfl ?_
      refine wp_append_copy w1 _ _ 37 rfl (w.heap.size + 2) 53 i61 _ 11 88 Try.underlying37 hi61 hz61 hs61 hb61 rfl (by decide) rfl A rows.length cap (cellsOfRows rows) rfl (hR.below hw.bel).copies (by unfold maxLen; omega) hn hw.sz fun v' w' h1 h2 => ?_
      exact ⟨_, _, v', _, _, _, _, rfl, upd_of (by omega) f0, upd_of (by omega) f1, fun _ => h1, upd_of (by omega) f3, upd_of (by omega) f4, upd_of (by omega) (fun h => (f5 h).kept h2 (by cases x8.ownBlock <;> simp)), upd_of (by omega) (fun h => absurd ((f6 h).2.1.symm.trans hL) (by decide)), upd_no (h7 (by omega)) (by omega), hw.grown h2, hd.upd 2 (by omega) (fun _ => he ⟨1, .data⟩ (by simp) rfl) (by omega) (by omega)⟩
    | 3, ho =>
      have ho' := ho
      simp at ho'
      subst ho'
      refine wpOp_of ho rfl ?_
      simp [go_sem]
      exact ⟨_, _, _, _, _, _, _, rfl, upd_of (by omega) f0, upd_of (by omega) f1, upd_of (by omega) f2, fun _ => rfl, upd_of (by omega) f4, upd_of (by omega) f5, upd_of (by omega) (fun h => ⟨(f6 h).1, by rw [upd_ne (by omega)]; exact (f6 h).2.1, by rw [upd_ne (by omega)]; exact (f6 h).2.2⟩), upd_no (h7 (by omega)) (by omega), hw, hd.upd 3 (by omega) (by omega) (by omega) (by omega)⟩
    | 4, ho =>
      have ho' := ho
      simp at ho'
      subst ho'
      obtain rfl := f3 (he ⟨3, .data⟩ (by simp) rfl)
      refine wpOp_of ho rfl ?_
      simp [go_sem, r1]
      exact ⟨_, _, _, _, _, _, _, rfl, upd_of (by omega) f0, upd_of (by omega) f1, upd_of (by omega) f2, upd_of (by omega) f3, fun _ => rfl, upd_of (by omega) f5, upd_of (by omega) (fun h => ⟨(f6 h).1, by rw [upd_ne (by omega)]; exact (f6 h).2.1, by rw [upd_ne (by omega)]; exact (f6 h).2.2⟩), upd_no (h7 (by omega)) (by omega), hw, hd.upd 4 (by omega) (by omega) (fun _ => he ⟨3, .data⟩ (by simp) rfl) (by omega)⟩
    | 5, ho =>
      have ho' := ho
      simp at ho'
      subst ho'
      obtain rfl := f4 (he ⟨4, .data⟩ (by simp) rfl)
      refine wpOp_of ho rfl ?_
      refine wp_append_copy w1 _ _ 38 rfl (w.heap.size + 2) 3 i3 _ 1 8 Try.underlying38 hi3 hz3 hs3 hb3 rfl (by decide) rfl G gens.length gcap (cellsOfInts gens) rfl (hG.below hw.bel).copies (by unfold maxLen; omega) hgn hw.sz fun v' w' h1 h2 => ?_
      exact ⟨_, _, _, _, _, v', _, rfl, upd_of (by omega) f0, upd_of (by omega) f1, upd_of (by omega) (fun h => (f2 h).kept h2 (by cases x5.ownBlock <;> simp)), upd_of (by omega) f3, upd_of (by omega) f4, fun _ => h1, upd_of (by omega) (fun h => absurd ((f6 h).2.2.symm.trans hL) (by decide)), upd_no (h7 (by omega)) (by omega), hw.grown h2, hd.upd 5 (by omega) (by omega) (by omega) (fun _ => he ⟨4, .data⟩ (by simp) rfl)⟩
    | 6, ho =>
      have ho' := ho
      simp at ho'
      subst ho'
      have l2 := he ⟨2, .data⟩ (by simp) rfl
      have l5 := he ⟨5, .data⟩ (by simp) rfl
      obtain ⟨A5, c5, e5⟩ := own_one (f2 l2)
      obtain ⟨A8, c8, e8⟩ := own_one (f5 l5)
      refine wpOp_of ho rfl ?_
      subst e5
      subst e8
      simp [go_sem]
      exact ⟨_, _, _, _, _, _, _, rfl, upd_of (by omega) f0, upd_of (by omega) f1, upd_of (by omega) f2, upd_of (by omega) f3, upd_of (by omega) f4, upd_of (by omega) f5, fun _ => ⟨rfl, by rw [upd_ne (by omega)]; exact l2, by rw [upd_ne (by omega)]; exact l5⟩, upd_no (h7 (by omega)) (by omega), hw, hd.upd 6 (by omega) (by omega) (by omega) (by omega)⟩
    | 7, ho =>
      have ho' := ho
      simp at ho'
      subst ho'
      obtain ⟨rfl, l2, l5⟩ := f6 (he ⟨6, .data⟩ (by simp) rfl)
      obtain ⟨A5, c5, e5⟩ := own_one (f2 l2)
      obtain ⟨A8, c8, e8⟩ := own_one (f5 l5)
      subst e5
      subst e8
      have t0 := hw.t0
      have t1 := hw.t1
      have g0 := hw.f 0
      have g1 := hw.f 1
      obtain ⟨u0, t0⟩ := Option.isSome_iff_exists.1 t0
      obtain ⟨u1, t1⟩ := Option.isSome_iff_exists.1 t1
      refine wpOp_of ho rfl ?_
      simp [go_sem, t0, t1, g0, g1]
      have o2 := fun h => ownsRow_setCell_below (ownsRow_setCell_below (f2 h) (a := ⟨w.heap.size + 1, 0, none⟩) (by simp) (.slice A5 rows.length c5)) (a := ⟨w.heap.size + 1, 1, none⟩) (by simp) (.slice A8 gens.length c8)
      have o5 := fun h => ownsRow_setCell_below (ownsRow_setCell_below (f5 h) (a := ⟨w.heap.size + 1, 0, none⟩) (by simp) (.slice A5 rows.length c5)) (a := ⟨w.heap.size + 1, 1, none⟩) (by simp) (.slice A8 gens.length c8)
      have k0 : ((w1.setCell ⟨w.heap.size + 1, 0, none⟩ (.slice A5 rows.length c5)).setCell ⟨w.heap.size + 1, 1, none⟩ (.slice A8 gens.length c8)).cell? ⟨w.heap.size + 1, 0, none⟩ = some (.slice A5 rows.length c5) := by
        exact setc_other (by simp) (setc_same t0)
      have k1 : ((w1.setCell ⟨w.heap.size + 1, 0, none⟩ (.slice A5 rows.length c5)).setCell ⟨w.heap.size + 1, 1, none⟩ (.slice A8 gens.length c8)).cell? ⟨w.heap.size + 1, 1, none⟩ = some (.slice A8 gens.length c8) := by
        exact setc_same (setc_other (by simp) t1)
      have l6 := he ⟨6, .data⟩ (by simp) rfl
      have ll : ∀ j, j < 7 → L j = true := fun j hj => by
        rcases (by omega : j = 0 ∨ j = 1 ∨ j = 2 ∨ j = 3 ∨ j = 4 ∨ j = 5 ∨ j = 6) with rfl | rfl | rfl | rfl | rfl | rfl | rfl
        · exact hd.d1 (hd.d2 l2)
        · exact hd.d2 l2
        · exact l2
        · exact hd.d4 (hd.d5 l5)
        · exact hd.d5 l5
        · exact l5
        · exact l6
      refine ⟨_, _, _, _, _, _, _, rfl, upd_of (by omega) f0, upd_of (by omega) f1, upd_of (by omega) o2, upd_of (by omega) f3, upd_of (by omega) f4, upd_of (by omega) o5, upd_of (by omega) (fun h => ⟨rfl, by rw [upd_ne (by omega)]; exact l2, by rw [upd_ne (by omega)]; exact l5⟩), fun _ => ⟨k0, k1, fun j hj => by rw [upd_ne (by omega)]; exact ll j hj⟩, ?_, hd.upd 7 (by omega) (by omega) (by omega) (by omega)⟩
      refine ⟨(hw.bel.setCell (p := ⟨w.heap.size + 1, 0, none⟩) (by simp) _).setCell (p := ⟨w.heap.size + 1, 1, none⟩) (by simp) _, by simpa using hw.sz, ?_, ?_, by rw [k0]; rfl, by rw [k1]; rfl, fun i => by simpa using hw.f i⟩
      · exact setc_other (by simp) (setc_other (by simp) r0)
      · exact setc_other (by simp) (setc_other (by simp) r1)
  case fin =>
    rintro L ac w1 ⟨x3, x4, x5, x6, x7, x8, x9, rfl, f0, f1, f2, f3, f4, f5, f6, f7, hw, hd⟩ hall
    have h5 := f2 (hall 2 (by decide))
    have h8 := f5 (hall 5 (by decide))
    obtain ⟨c0, c1, _⟩ := f7 (hall 7 (by decide))
    have HB := hide hw.bel
    have H5 := hide h5
    have H8 := hide h8
    clear f0 f1 f2 f3 f4 f5 f6 f7 hw h5 h8 hall
    refine hK1 _ _ ?_
    go_wp2
    refine bodyPost_ret (v := .agg #[x5, x8]) (by simp [results, Try.results84, go_sem, c0, c1]) rfl ⟨x5, x8, rfl, unhide H5, unhide H8, unhide HB⟩
end Go.Proofs.Ytnbleebilmghcab
namespace Go.Proofs.Ytnbleebilmghcab
open Go Go.RowKit
theorem run_store1 {P : Program} (w : World) (b o : Nat) (ty : TypeId) (v : Value) (ht : w.there b o 1) (hi : (P.info? ty).map (·.size) = some 1) (h1 : v.oneCell' = true) :
    (storeVar ty ⟨b, o, none⟩ v).run P w = .ok () (w.setCell ⟨b, o, none⟩ v) := by
  have := run_storeCells_cells (P := P) b o [v] 0 w (fun j hj => by simpa using (ht j (by simpa using hj)).1) (fun j hj => by simpa using (ht j (by simpa using hj)).2) (fun u hu => by rw [List.mem_singleton] at hu; rw [hu]; exact h1)
  have hc : v.cells = #[v] := by cases v <;> first | rfl | cases h1
  cases hq : P.info? ty with
  | none => simp [hq] at hi
  | some i =>
    have hs : i.size = 1 := by simpa [hq] using hi
    simp only [Nat.add_zero] at this
    have e : w.setCells b o [v] = w.setCell ⟨b, o, none⟩ v := rfl
    rw [e] at this
    simp [storeVar, sizeOf, typeInfo, hq, hc, hs, this]
theorem wpList_put1 {P : Program} {ops : Array Oper} {rest : List Oper} {op : Oper} {a : Act} {w : World} {Q : Exit → Act → World → Prop} (hgd : op.guard = none) (ty : TypeId) (x y : Operand) (ho : op.op = .store ty x y)
    (b o : Nat) (v : Value) (hx : a.eval x = .pointer (some ⟨b, o, none⟩)) (hy : a.eval y = v) (h1 : v.oneCell' = true) (hi : (P.info? ty).map (·.size) = some 1) (ht : w.there b o 1)
    (h : ∀ W1, W1 = w.setCell ⟨b, o, none⟩ v → wpList P ops Q rest (a.put op.dst undef) W1) : wpList P ops Q (op :: rest) a w :=
  wpList_plain hgd fun _ hK => by
    unfold Oper.wp execOp
    simp only [ho, hx, hy, Instr.storeAt, Instr.sureAddr, Sem.run_bind, Sem.run_pure, Result.andThen_ok, run_store1 w b o ty v ht hi h1]
    exact hK _ _ (h _ rfl)
theorem wpList_putN {P : Program} {ops : Array Oper} {rest : List Oper} {op : Oper} {a : Act} {w : World} {Q : Exit → Act → World → Prop} (hgd : op.guard = none) (ty : TypeId) (x y : Operand) (ho : op.op = .store ty x y)
    (b o : Nat) (cells : List Value) (hx : a.eval x = .pointer (some ⟨b, o, none⟩)) (hy : a.eval y = .agg cells.toArray) (h1 : ∀ u ∈ cells, u.oneCell' = true) (hi : (P.info? ty).map (·.size) = some cells.length) (ht : w.there b o cells.length)
    (h : ∀ W1, W1 = w.setCells b o cells → wpList P ops Q rest (a.put op.dst undef) W1) : wpList P ops Q (op :: rest) a w :=
  wpList_store_mid hgd ty x y ho b o cells.toArray hx hy (by simpa using ht) (by simpa using hi) (all_oneCell_toArray h1) (h _ (by simp))
theorem there_of {w : World} {b o : Nat} {u : Value} (h : w.cell? ⟨b, o, none⟩ = some u) (hf : ∀ i, w.frozen? ⟨b, i, none⟩ = false) : w.there b o 1 := fun j hj => by
  obtain rfl : j = 0 := by omega
  exact ⟨by rw [Nat.add_zero, h]; rfl, hf _⟩
theorem addr_ne {b i j : Nat} (h : i ≠ j) : (⟨b, i, none⟩ : Addr) ≠ ⟨b, j, none⟩ := fun e => h (congrArg Addr.off e)
theorem rowAt_set_has {W : World} {b o : Nat} {x : RowI} (h : RowAt W b o x) (q : Int) : RowAt (W.setCell ⟨b, o + 2, none⟩ (.int .i64 q)) b o ⟨x.ix, x.gen, q, x.v⟩ :=
  ⟨setc_other (by simp) h.c0, setc_other (by simp) h.c1, setc_same h.c2, fun k hk => setc_other (addr_ne (by omega)) (h.v k hk)⟩
theorem rowAt_set_v {W : World} {b o : Nat} {x : RowI} (h : RowAt W b o x) (k : Nat) (hk : k < 8) (n : Int) : RowAt (W.setCell ⟨b, o + 3 + k, none⟩ (.int .i64 n)) b o ⟨x.ix, x.gen, x.has, fun j => if j = k then n else x.v j⟩ :=
  ⟨setc_other (addr_ne (by omega)) h.c0, setc_other (addr_ne (by omega)) h.c1, setc_other (addr_ne (by omega)) h.c2, fun j hj => by
    by_cases e : j = k
    · subst e; simp only [if_true]; exact setc_same (h.v j hj)
    · simp only [e, if_false]; exact setc_other (addr_ne (by omega)) (h.v j hj)⟩
theorem rowAt_other {W : World} {b b' o i : Nat} {x : RowI} {u : Value} (hb : b ≠ b') (h : RowAt W b' o x) : RowAt (W.setCell ⟨b, i, none⟩ u) b' o x :=
  ⟨setc_other (by simp [hb]) h.c0, setc_other (by simp [hb]) h.c1, setc_other (by simp [hb]) h.c2, fun j hj => setc_other (by simp [hb]) (h.v j hj)⟩
theorem setcs_other {W : World} {b o : Nat} {vs : List Value} {p : Addr} (hp : p.block ≠ b) : (W.setCells b o vs).cell? p = W.cell? p := World.cell?_setCells_out b vs o W p (fun h => absurd h hp)
theorem rowAt_others {W : World} {b b' o i : Nat} {x : RowI} {vs : List Value} (hb : b' ≠ b) (h : RowAt W b' o x) : RowAt (W.setCells b i vs) b' o x :=
  ⟨(setcs_other hb).trans h.c0, (setcs_other hb).trans h.c1, (setcs_other hb).trans h.c2, fun j hj => (setcs_other hb).trans (h.v j hj)⟩
theorem rowAt_put {W : World} {b o : Nat} (x : RowI) (ht : W.there b o 11) : RowAt (W.setCells b o (rowCells x)) b o x := by
  refine (rowAt_iff _ _ _ _).2 fun i u hu => ?_
  have hi : i < (rowCells x).length := by
    by_cases hh : i < (rowCells x).length
    · exact hh
    · rw [List.getElem?_eq_none (by omega)] at hu; cases hu
  rw [World.cell?_setCells_in b (rowCells x) o W (fun j hj => (ht j (by rw [rowCells_len] at hj; exact hj)).1) i hi, ← hu, List.getElem?_eq_getElem hi]
theorem rowCells_one (x : RowI) : ∀ u ∈ rowCells x, u.oneCell' = true := fun u hu => by
  have := cellsOfRows_one [x] u
  unfold cellsOfRows at this
  simpa using this (by simpa using hu)
theorem rowAt_there {W : World} {b o : Nat} {x : RowI} (h : RowAt W b o x) (hf : ∀ i, W.frozen? ⟨b, i, none⟩ = false) : W.there b o 11 := fun j hj => by
  have := (rowAt_iff _ _ _ _).1 h j ((rowCells x)[j]'(by rw [rowCells_len]; exact hj)) (List.getElem?_eq_getElem _)
  exact ⟨by rw [this]; rfl, hf _⟩
structure RB (w : World) (b c : Nat) (x y : RowI) (W : World) : Prop where
  bel : Below w.heap.size w W
  lo : w.heap.size ≤ b
  lc : w.heap.size ≤ c
  ne : b ≠ c
  r : RowAt W b 0 x
  s : RowAt W c 0 y
  fr : ∀ i, W.frozen? ⟨b, i, none⟩ = false
  fs : ∀ i, W.frozen? ⟨c, i, none⟩ = false
theorem RB.below {w W W1 : World} {b c : Nat} {x y : RowI} (h : RB w b c x y W) (hb : Below W.heap.size W W1) : RB w b c x y W1 :=
  ⟨h.bel.trans (hb.mono h.bel.size), h.lo, h.lc, h.ne, h.r.below hb, h.s.below hb, fun i => (hb.frozen (p := ⟨b, i, none⟩) (show b < W.heap.size from World.block_lt_of_cell? W ⟨b, 0, none⟩ h.r.c0)).trans (h.fr i), fun i => (hb.frozen (p := ⟨c, i, none⟩) (show c < W.heap.size from World.block_lt_of_cell? W ⟨c, 0, none⟩ h.s.c0)).trans (h.fs i)⟩
theorem RB.setHas {w W : World} {b c : Nat} {x y : RowI} (h : RB w b c x y W) (q : Int) : RB w b c ⟨x.ix, x.gen, q, x.v⟩ y (W.setCell ⟨b, 2, none⟩ (.int .i64 q)) :=
  ⟨h.bel.setCell (p := ⟨b, 2, none⟩) h.lo _, h.lo, h.lc, h.ne, by have := rowAt_set_has h.r q; rwa [Nat.zero_add] at this, rowAt_other h.ne h.s, fun i => by simpa using h.fr i, fun i => by simpa using h.fs i⟩
theorem RB.setV {w W : World} {b c : Nat} {x y : RowI} (h : RB w b c x y W) (k : Nat) (hk : k < 8) (n : Int) : RB w b c ⟨x.ix, x.gen, x.has, fun j => if j = k then n else x.v j⟩ y (W.setCell ⟨b, 3 + k, none⟩ (.int .i64 n)) :=
  ⟨h.bel.setCell (p := ⟨b, 3 + k, none⟩) h.lo _, h.lo, h.lc, h.ne, by have := rowAt_set_v h.r k hk n; rwa [Nat.zero_add] at this, rowAt_other h.ne h.s, fun i => by simpa using h.fr i, fun i => by simpa using h.fs i⟩
theorem RB.give {w W : World} {b c : Nat} {x y : RowI} (h : RB w b c x y W) (z : RowI) : RB w b c x z (W.setCells c 0 (rowCells z)) :=
  ⟨below_setCells c h.lc (rowCells z) 0 W h.bel, h.lo, h.lc, h.ne, rowAt_others h.ne h.r, rowAt_put z (rowAt_there h.s h.fs), fun i => by rw [World.frozen?_setCells]; exact h.fr i, fun i => by rw [World.frozen?_setCells]; exact h.fs i⟩
theorem box_row (w : World) (x : RowI) (t : TypeId) : RowAt (w.alloc (.cells (rowCells x).toArray t)) w.heap.size 0 x ∧ ∀ i, (w.alloc (.cells (rowCells x).toArray t)).frozen? ⟨w.heap.size, i, none⟩ = false := by
  refine ⟨(rowAt_iff _ _ _ _).2 fun i u hu => ?_, fun i => by simp [go_sem]⟩
  rw [Nat.zero_add]
  simp [hu]
theorem RB.start (w : World) (x y : RowI) : RB w w.heap.size (w.heap.size + 1) x y ((w.alloc (.cells (rowCells x).toArray 53)).alloc (.cells (rowCells y).toArray 53)) := by
  obtain ⟨h1, f1⟩ := box_row w x 53
  obtain ⟨h2, f2⟩ := box_row (w.alloc (.cells (rowCells x).toArray 53)) y 53
  have hb : Below (w.alloc (.cells (rowCells x).toArray 53)).heap.size (w.alloc (.cells (rowCells x).toArray 53)) ((w.alloc (.cells (rowCells x).toArray 53)).alloc (.cells (rowCells y).toArray 53)) := (Below.refl _ _).alloc (Nat.le_refl _) _
  have z : (w.alloc (.cells (rowCells x).toArray 53)).heap.size = w.heap.size + 1 := by simp
  refine ⟨((Below.refl _ _).alloc (Nat.le_refl _) _).alloc (by simp) _, Nat.le_refl _, by omega, by omega, h1.below hb, by rw [z] at h2; exact h2, fun i => (hb.frozen (p := ⟨w.heap.size, i, none⟩) (by simp)).trans (f1 i), fun i => by rw [z] at f2; exact f2 i⟩
end Go.Proofs.Ytnbleebilmghcab
namespace Go.Proofs.Ytnbleebilmghcab
open Go Go.RowKit
attribute [local go_sem ↓] Go.wp_at_zero Go.wp_at_succ
structure Wd where
  rows : List RowI
  gens : List Int
def emptyW : Wd := ⟨[], []⟩
def wrongW (X : Wd) : Int × Int := plainF (fun j => X.rows.getD j dR) X.rows.length X.gens.length (fun j => X.gens.getD j 0)
def findW (X : Wd) (i g : Int) : Int := fIx (fun j => X.rows.getD j dR) i g X.rows.length 0
structure WldAt (w : World) (A : Option Addr) (cap : Nat) (G : Option Addr) (gcap : Nat) (X : Wd) : Prop where
  rows : RowsL w A X.rows
  gens : IntsL w G X.gens
theorem WldAt.below {w w1 : World} {A : Option Addr} {cap : Nat} {G : Option Addr} {gcap : Nat} {X : Wd} (h : WldAt w A cap G gcap X) (hb : Below w.heap.size w w1) : WldAt w1 A cap G gcap X := ⟨h.rows.below hb, h.gens.below hb⟩
def wldV (A : Option Addr) (cap : Nat) (G : Option Addr) (gcap : Nat) (X : Wd) : Value := worldV A X.rows.length cap G X.gens.length gcap
def setsL (xs : List Value) : Nat → List Value → List Value
  | _, [] => xs
  | o, v :: r => setsL (xs.set o v) (o + 1) r
theorem setsL_len : ∀ (vs : List Value) (xs : List Value) (o : Nat), (setsL xs o vs).length = xs.length
  | [], _, _ => rfl
  | v :: r, xs, o => by show (setsL (xs.set o v) (o + 1) r).length = _; rw [setsL_len r, List.length_set]
theorem setsL_get : ∀ (vs : List Value) (xs : List Value) (o i : Nat), (setsL xs o vs)[i]? = if o ≤ i ∧ i < o + vs.length ∧ i < xs.length then vs[i - o]? else xs[i]?
  | [], xs, o, i => by rw [if_neg (by simp; omega)]; rfl
  | v :: r, xs, o, i => by
    show (setsL (xs.set o v) (o + 1) r)[i]? = _
    rw [setsL_get r (xs.set o v) (o + 1) i, List.length_set]
    by_cases h1 : o + 1 ≤ i ∧ i < o + 1 + r.length ∧ i < xs.length
    · rw [if_pos h1, if_pos (by simp; omega), show i - o = (i - (o + 1)) + 1 by omega, List.getElem?_cons_succ]
    · rw [if_neg h1]
      by_cases h2 : o = i
      · subst h2
        by_cases h3 : o < xs.length
        · rw [List.getElem?_set_self h3, if_pos (by simp; omega), Nat.sub_self]; rfl
        · rw [if_neg (by omega), List.getElem?_eq_none (by simp; omega), List.getElem?_eq_none (by omega)]
      · rw [List.getElem?_set_ne h2, if_neg (by simp; omega)]
theorem own_sets {base : Nat} {e : TypeId} {size n g cap : Nat} : ∀ (vs : List Value) (o : Nat) (W : World) (xs : List Value), W.ownsRow base e size (.slice (some ⟨g, 0, none⟩) n cap) n xs → o + vs.length ≤ xs.length → (W.setCells g o vs).ownsRow base e size (.slice (some ⟨g, 0, none⟩) n cap) n (setsL xs o vs)
  | [], _, _, _, h, _ => h
  | v :: r, o, W, xs, h, hl => own_sets r (o + 1) _ _ (own_set h (by simp at hl; omega) v) (by rw [List.length_set]; simp at hl; omega)
theorem own_there {W : World} {base : Nat} {e : TypeId} {size n g cap : Nat} {xs : List Value} (h : W.ownsRow base e size (.slice (some ⟨g, 0, none⟩) n cap) n xs) (o k : Nat) (hk : o + k ≤ xs.length) : W.there g o k := fun j hj => by
  have hl : o + j < xs.length := by omega
  exact ⟨by rw [own_cell h (List.getElem?_eq_getElem hl)]; rfl, own_free h _⟩
theorem getD_setR (rows : List RowI) (k j : Nat) (r : RowI) (h : j < rows.length) : (rows.set k r).getD j dR = if j = k then r else rows.getD j dR := by
  by_cases e : j = k
  · subst e; rw [if_pos rfl, List.getD_eq_getElem?_getD, List.getElem?_set_self h]; rfl
  · rw [if_neg e, List.getD_eq_getElem?_getD, List.getElem?_set_ne (Ne.symm e), List.getD_eq_getElem?_getD]
theorem setsL_rows (rows : List RowI) (k : Nat) (r : RowI) (hk : k < rows.length) : setsL (cellsOfRows rows) (k * 11) (rowCells r) = cellsOfRows (rows.set k r) := by
  apply List.ext_getElem?
  intro i
  by_cases hi : i < rows.length * 11
  · have e : i = i / 11 * 11 + i % 11 := by omega
    rw [setsL_get, cellsOfRows_len]
    have h1 : (cellsOfRows (rows.set k r))[i]? = (rowCells ((rows.set k r).getD (i / 11) dR))[i % 11]? := by
      conv => lhs; rw [e]
      exact cellsOfRows_at _ _ _ (by rw [List.length_set]; omega) (by omega)
    have h2 : (cellsOfRows rows)[i]? = (rowCells (rows.getD (i / 11) dR))[i % 11]? := by
      conv => lhs; rw [e]
      exact cellsOfRows_at _ _ _ (by omega) (by omega)
    rw [h1, h2, getD_setR _ _ _ _ (by omega), rowCells_len]
    by_cases hh : i / 11 = k
    · rw [if_pos (by omega), if_pos hh]; congr 1; omega
    · rw [if_neg (by omega), if_neg hh]
  · rw [List.getElem?_eq_none (by rw [setsL_len, cellsOfRows_len]; omega), List.getElem?_eq_none (by rw [cellsOfRows_len, List.length_set]; omega)]
def putR (x : RowI) (p n : Int) : RowI := ⟨x.ix, x.gen, bits .or .i64 x.has (bitI p), fun k => if k = p.toNat then n else x.v k⟩
def dropR (x : RowI) (p : Int) : RowI := ⟨x.ix, x.gen, bits .andNot .i64 x.has (bitI p), fun k => if k = p.toNat then 0 else x.v k⟩
set_option maxRecDepth 8000 in
set_option maxHeartbeats 400000 in
theorem kill1_any (x : RowI) (w : World) : Calls Try.prog 124 #[rowV x] w fun e w' => e = .returned (.tuple #[rowV dR, .bool false, .int .i64 0]) ∧ Below w.heap.size w w' := by
  unfold rowV dR
  go_enter Try.func124, Try.ntmps124
  go_wp2
  refine bodyPost_ret (v := .tuple #[.agg #[.int .i64 0, .int .i64 0, .int .i64 0, .int .i64 0, .int .i64 0, .int .i64 0, .int .i64 0, .int .i64 0, .int .i64 0, .int .i64 0, .int .i64 0], .bool false, .int .i64 0]) (by simp [results, Try.results124, go_sem]) rfl ⟨rfl, by go_grown⟩
theorem size3 : (Try.prog.info? 3).map (·.size) = some 1 := by kernel_rfl
theorem size61 : (Try.prog.info? 53).map (·.size) = some 11 := by kernel_rfl
theorem two_below (w : World) (o1 o2 : Obj) : Below w.heap.size w ((w.alloc o1).alloc o2) := ((Below.refl _ _).alloc (Nat.le_refl _) _).alloc (by simp) _
def putC (x : RowI) (p n : Int) : RowI × Bool × Int := if partB p && valB n then (putR x p n, true, 0) else (dR, false, 3)
def dropC (x : RowI) (p : Int) : RowI × Bool × Int := if hasI x.has p then (dropR x p, true, 0) else (dR, false, 5)
def ansV (y : RowI × Bool × Int) : Value := .tuple #[rowV y.1, .bool y.2.1, .int .i64 y.2.2]
set_option maxRecDepth 100000 in
set_option maxHeartbeats 4000000 in
theorem put1_any (x : RowI) (p n : Int) (bp bn : Nat) (w : World) (h1 : w.cell? ⟨bp, 0, none⟩ = some (.int .i64 p)) (h2 : w.cell? ⟨bn, 0, none⟩ = some (.int .i64 n)) :
    Calls Try.prog 126 #[rowV x, .pointer (some ⟨bp, 0, none⟩), .pointer (some ⟨bn, 0, none⟩)] w fun e w' => e = .returned (ansV (putC x p n)) ∧ Below w.heap.size w w' := by
  have g1 : ∀ o1 o2 : Obj, ((w.alloc o1).alloc o2).cell? ⟨bp, 0, none⟩ = some (.int .i64 p) := fun o1 o2 => keep_below (two_below w o1 o2) h1
  have g2 : ∀ o1 o2 : Obj, ((w.alloc o1).alloc o2).cell? ⟨bn, 0, none⟩ = some (.int .i64 n) := fun o1 o2 => keep_below (two_below w o1 o2) h2
  have H1 := hide h1
  have H2 := hide h2
  clear h1 h2
  unfold putC ansV
  cases hp : partB p
  · unfold rowV dR
    simp only [Bool.false_and, Bool.false_eq_true, if_false]
    go_enter Try.func126, Try.ntmps126
    go_wp2_with (first
      | (go_at_call 80; refine (part_any _ _).mono ?_; rintro e w1 ⟨rfl, hw⟩; obtain rfl := hw.symm)
      | (go_at_call 81; refine (value_any _ _).mono ?_; rintro e w1 ⟨rfl, hw⟩; obtain rfl := hw.symm))
    refine bodyPost_ret (v := .tuple #[.agg #[.int .i64 0, .int .i64 0, .int .i64 0, .int .i64 0, .int .i64 0, .int .i64 0, .int .i64 0, .int .i64 0, .int .i64 0, .int .i64 0, .int .i64 0], .bool false, .int .i64 3]) (by simp [results, Try.results126, go_sem]) rfl ⟨rfl, by go_grown⟩
  · cases hv : valB n
    · unfold rowV dR
      simp only [Bool.true_and, Bool.false_eq_true, if_false]
      go_enter Try.func126, Try.ntmps126
      go_wp2_with (first
        | (go_at_call 80; refine (part_any _ _).mono ?_; rintro e w1 ⟨rfl, hw⟩; obtain rfl := hw.symm)
        | (go_at_call 81; refine (value_any _ _).mono ?_; rintro e w1 ⟨rfl, hw⟩; obtain rfl := hw.symm))
      refine bodyPost_ret (v := .tuple #[.agg #[.int .i64 0, .int .i64 0, .int .i64 0, .int .i64 0, .int .i64 0, .int .i64 0, .int .i64 0, .int .i64 0, .int .i64 0, .int .i64 0, .int .i64 0], .bool false, .int .i64 3]) (by simp [results, Try.results126, go_sem]) rfl ⟨rfl, by go_grown⟩
    · obtain ⟨k, hk, rfl⟩ : ∃ k : Nat, k < 8 ∧ p = (k : Int) := ⟨p.toNat, by have := of_decide_eq_true hp; omega, by have := of_decide_eq_true hp; omega⟩
      have HW := hide (with_any x.has (k : Int))
      simp only [Bool.true_and, if_true]
      have HR := hide (RB.start w x dR)
      have kk0 : (0 : Int) ≤ (k : Int) := by omega
      have kk1 : (k : Int) < 8 := by omega
      have e : putR x (k : Int) n = ⟨x.ix, x.gen, bits .or .i64 x.has (bitI (k : Int)), fun j => if j = k then n else x.v j⟩ := rfl
      generalize hz : putR x (k : Int) n = z at *
      have HE := hide e
      clear hz e
      generalize hq : bits .or .i64 x.has (bitI (k : Int)) = q at *
      clear hq
      unfold rowV
      unfold rowCells dR at HR
      go_enter Try.func126, Try.ntmps126
      go_wp2_with (first
        | (go_at_call 80; refine (part_any _ _).mono ?_; rintro e w1 ⟨rfl, hw⟩; obtain rfl := hw.symm)
        | (go_at_call 81; refine (value_any _ _).mono ?_; rintro e w1 ⟨rfl, hw⟩; obtain rfl := hw.symm)
        | (go_at_call 58; refine (unhide HW _).mono ?_; rintro e w1 ⟨rfl, hw⟩; obtain rfl := hw.symm)
        | (refine wpList_put1 rfl 3 (.tmp 20) (.tmp 19) rfl w.heap.size 2 (.int .i64 q) rfl rfl rfl size3 (there_of (unhide HR).r.c2 (unhide HR).fr) ?_; intro W1 hW1; have hR1 := (unhide HR).setHas q; rw [← hW1] at hR1; have HR1 := hide hR1; have p1 := keep_below hR1.bel (unhide H1); have p2 := keep_below hR1.bel (unhide H2); clear hR1 hW1 HR)
        | (refine wpList_put1 rfl 3 (.tmp 24) (.tmp 22) rfl w.heap.size (3 + k) (.int .i64 n) rfl rfl rfl size3 (there_of ((unhide HR1).r.v k hk) (unhide HR1).fr) ?_; intro W2 hW2; have hR2 := (unhide HR1).setV k hk n; rw [← hW2, ← unhide HE] at hR2; have HR2 := hide hR2; have c0 := hR2.r.c0; have c1 := hR2.r.c1; have c2 := hR2.r.c2; have c3 := hR2.r.v 0 (by decide); have c4 := hR2.r.v 1 (by decide); have c5 := hR2.r.v 2 (by decide); have c6 := hR2.r.v 3 (by decide); have c7 := hR2.r.v 4 (by decide); have c8 := hR2.r.v 5 (by decide); have c9 := hR2.r.v 6 (by decide); have c10 := hR2.r.v 7 (by decide); simp only [Nat.zero_add, Nat.reduceAdd] at c0 c1 c2 c3 c4 c5 c6 c7 c8 c9 c10; clear hR2 hW2 HR1 p1 p2)
        | (refine wpList_putN rfl 53 (.tmp 4) (.tmp 25) rfl (w.heap.size + 1) 0 (rowCells z) rfl rfl (rowCells_one z) size61 (rowAt_there (unhide HR2).s (unhide HR2).fs) ?_; intro W3 hW3; have hR3 := (unhide HR2).give z; rw [← hW3] at hR3; have HR3 := hide hR3; clear hW3 hR3 HR2 c0 c1 c2 c3 c4 c5 c6 c7 c8 c9 c10))
      have hR3 := unhide HR3
      have c0 := hR3.s.c0
      have c1 := hR3.s.c1
      have c2 := hR3.s.c2
      have c3 := hR3.s.v 0 (by decide)
      have c4 := hR3.s.v 1 (by decide)
      have c5 := hR3.s.v 2 (by decide)
      have c6 := hR3.s.v 3 (by decide)
      have c7 := hR3.s.v 4 (by decide)
      have c8 := hR3.s.v 5 (by decide)
      have c9 := hR3.s.v 6 (by decide)
      have c10 := hR3.s.v 7 (by decide)
      simp only [Nat.zero_add, Nat.reduceAdd] at c0 c1 c2 c3 c4 c5 c6 c7 c8 c9 c10
      refine bodyPost_ret (v := .tuple #[.agg #[.int .i64 z.ix, .int .i64 z.gen, .int .i64 z.has, .int .i64 (z.v 0), .int .i64 (z.v 1), .int .i64 (z.v 2), .int .i64 (z.v 3), .int .i64 (z.v 4), .int .i64 (z.v 5), .int .i64 (z.v 6), .int .i64 (z.v 7)], .bool true, .int .i64 0]) (by simp [results, Try.results126, go_sem, c0, c1, c2, c3, c4, c5, c6, c7, c8, c9, c10]) rfl ⟨rfl, hR3.bel⟩
set_option maxRecDepth 100000 in
set_option maxHeartbeats 4000000 in
theorem drop1_any (x : RowI) (p : Int) (bp : Nat) (w : World) (h1 : w.cell? ⟨bp, 0, none⟩ = some (.int .i64 p)) :
    Calls Try.prog 132 #[rowV x, .pointer (some ⟨bp, 0, none⟩)] w fun e w' => e = .returned (ansV (dropC x p)) ∧ Below w.heap.size w w' := by
  have g1 : ∀ o1 o2 : Obj, ((w.alloc o1).alloc o2).cell? ⟨bp, 0, none⟩ = some (.int .i64 p) := fun o1 o2 => keep_below (two_below w o1 o2) h1
  have H1 := hide h1
  clear h1
  have HH := hide (fun W => has_any x.has p W)
  have HP := hide (has_part x.has p)
  unfold dropC ansV
  unfold hasI at *
  generalize hb : (bits .and .i64 x.has (bitI p) != 0) = b at *
  clear hb
  cases b
  · unfold rowV dR
    simp only [Bool.false_eq_true, if_false]
    go_enter Try.func132, Try.ntmps132
    go_wp2_with (first
      | (go_at_call 60; refine (unhide HH _).mono ?_; rintro e w1 ⟨rfl, hw⟩; obtain rfl := hw.symm))
    refine bodyPost_ret (v := .tuple #[.agg #[.int .i64 0, .int .i64 0, .int .i64 0, .int .i64 0, .int .i64 0, .int .i64 0, .int .i64 0, .int .i64 0, .int .i64 0, .int .i64 0, .int .i64 0], .bool false, .int .i64 5]) (by simp [results, Try.results132, go_sem]) rfl ⟨rfl, by go_grown⟩
  · obtain ⟨k, hk, rfl⟩ := unhide HP rfl
    have HW := hide (without_any x.has (k : Int))
    simp only [if_true]
    have HR := hide (RB.start w x dR)
    have kk0 : (0 : Int) ≤ (k : Int) := by omega
    have kk1 : (k : Int) < 8 := by omega
    have e : dropR x (k : Int) = ⟨x.ix, x.gen, bits .andNot .i64 x.has (bitI (k : Int)), fun j => if j = k then 0 else x.v j⟩ := rfl
    generalize hz : dropR x (k : Int) = z at *
    have HE := hide e
    clear hz e
    generalize hq : bits .andNot .i64 x.has (bitI (k : Int)) = q at *
    clear hq
    unfold rowV
    unfold rowCells dR at HR
    go_enter Try.func132, Try.ntmps132
    go_wp2_with (first
      | (go_at_call 60; refine (unhide HH _).mono ?_; rintro e w1 ⟨rfl, hw⟩; obtain rfl := hw.symm)
      | (go_at_call 59; refine (unhide HW _).mono ?_; rintro e w1 ⟨rfl, hw⟩; obtain rfl := hw.symm)
      | (refine wpList_put1 rfl 3 (.tmp 16) (.tmp 15) rfl w.heap.size 2 (.int .i64 q) rfl rfl rfl size3 (there_of (unhide HR).r.c2 (unhide HR).fr) ?_; intro W1 hW1; have hR1 := (unhide HR).setHas q; rw [← hW1] at hR1; have HR1 := hide hR1; have p1 := keep_below hR1.bel (unhide H1); clear hR1 hW1 HR)
      | (refine wpList_put1 rfl 3 (.tmp 19) (.const (.int .i64 0)) rfl w.heap.size (3 + k) (.int .i64 0) rfl rfl rfl size3 (there_of ((unhide HR1).r.v k hk) (unhide HR1).fr) ?_; intro W2 hW2; have hR2 := (unhide HR1).setV k hk 0; rw [← hW2, ← unhide HE] at hR2; have HR2 := hide hR2; have c0 := hR2.r.c0; have c1 := hR2.r.c1; have c2 := hR2.r.c2; have c3 := hR2.r.v 0 (by decide); have c4 := hR2.r.v 1 (by decide); have c5 := hR2.r.v 2 (by decide); have c6 := hR2.r.v 3 (by decide); have c7 := hR2.r.v 4 (by decide); have c8 := hR2.r.v 5 (by decide); have c9 := hR2.r.v 6 (by decide); have c10 := hR2.r.v 7 (by decide); simp only [Nat.zero_add, Nat.reduceAdd] at c0 c1 c2 c3 c4 c5 c6 c7 c8 c9 c10; clear hR2 hW2 HR1 p1)
      | (refine wpList_putN rfl 53 (.tmp 3) (.tmp 20) rfl (w.heap.size + 1) 0 (rowCells z) rfl rfl (rowCells_one z) size61 (rowAt_there (unhide HR2).s (unhide HR2).fs) ?_; intro W3 hW3; have hR3 := (unhide HR2).give z; rw [← hW3] at hR3; have HR3 := hide hR3; clear hW3 hR3 HR2 c0 c1 c2 c3 c4 c5 c6 c7 c8 c9 c10))
    have hR3 := unhide HR3
    have c0 := hR3.s.c0
    have c1 := hR3.s.c1
    have c2 := hR3.s.c2
    have c3 := hR3.s.v 0 (by decide)
    have c4 := hR3.s.v 1 (by decide)
    have c5 := hR3.s.v 2 (by decide)
    have c6 := hR3.s.v 3 (by decide)
    have c7 := hR3.s.v 4 (by decide)
    have c8 := hR3.s.v 5 (by decide)
    have c9 := hR3.s.v 6 (by decide)
    have c10 := hR3.s.v 7 (by decide)
    simp only [Nat.zero_add, Nat.reduceAdd] at c0 c1 c2 c3 c4 c5 c6 c7 c8 c9 c10
    refine bodyPost_ret (v := .tuple #[.agg #[.int .i64 z.ix, .int .i64 z.gen, .int .i64 z.has, .int .i64 (z.v 0), .int .i64 (z.v 1), .int .i64 (z.v 2), .int .i64 (z.v 3), .int .i64 (z.v 4), .int .i64 (z.v 5), .int .i64 (z.v 6), .int .i64 (z.v 7)], .bool true, .int .i64 0]) (by simp [results, Try.results132, go_sem, c0, c1, c2, c3, c4, c5, c6, c7, c8, c9, c10]) rfl ⟨rfl, hR3.bel⟩
end Go.Proofs.Ytnbleebilmghcab
namespace Go.Proofs.Ytnbleebilmghcab
open Go Go.RowKit
def rowOf (X : Wd) (j : Nat) : RowI := X.rows.getD j dR
structure RightW (X : Wd) : Prop where
  gl : X.gens.length ≤ 60
  gv : ∀ j, j < X.gens.length → 1 ≤ X.gens.getD j 0 ∧ X.gens.getD j 0 ≤ 1000
  rv : ∀ j, j < X.rows.length → rvB (rowOf X j) = true
  i0 : ∀ j, j < X.rows.length → 0 ≤ (rowOf X j).ix
  il : ∀ j, j < X.rows.length → (rowOf X j).ix < (X.gens.length : Int)
  up : ∀ j, j + 1 < X.rows.length → (rowOf X j).ix < (rowOf X (j + 1)).ix
  ge : ∀ j, j < X.rows.length → (rowOf X j).gen = X.gens.getD (rowOf X j).ix.toNat 0
theorem gTo_zero (f : Nat → Int) (r : Int × Int) : ∀ m j, (gTo f r m j).1 = 0 ↔ r.1 = 0 ∧ ∀ t, j ≤ t → t < j + m → 1 ≤ f t ∧ f t ≤ 1000
  | 0, j => by
    unfold gTo
    exact ⟨fun h => ⟨h, fun t h1 h2 => by omega⟩, fun h => h.1⟩
  | m + 1, j => by
    unfold gTo
    split
    · rename_i hc
      refine ⟨fun h => by simp at h, fun ⟨_, h⟩ => ?_⟩
      have := h j (by omega) (by omega)
      omega
    · rename_i hc
      rw [gTo_zero f r m (j + 1)]
      refine ⟨fun ⟨h1, h2⟩ => ⟨h1, fun t h3 h4 => ?_⟩, fun ⟨h1, h2⟩ => ⟨h1, fun t h3 h4 => h2 t (by omega) (by omega)⟩⟩
      by_cases e : t = j
      · subst e; omega
      · exact h2 t (by omega) (by omega)
theorem rTo_zero (R : Nat → RowI) (gn : Nat) (f : Nat → Int) : ∀ m j, (rTo R gn f m j).1 = 0 ↔ ∀ t, j ≤ t → t < j + m → wrowI R gn f t = 0
  | 0, j => by
    unfold rTo
    exact ⟨fun _ t h1 h2 => by omega, fun _ => rfl⟩
  | m + 1, j => by
    unfold rTo
    split
    · rename_i hc
      rw [rTo_zero R gn f m (j + 1)]
      refine ⟨fun h t h1 h2 => ?_, fun h t h1 h2 => h t (by omega) (by omega)⟩
      by_cases e : t = j
      · subst e; exact hc
      · exact h t (by omega) (by omega)
    · rename_i hc
      exact ⟨fun h => absurd h hc, fun h => absurd (h j (by omega) (by omega)) hc⟩
theorem wrowI_zero (R : Nat → RowI) (gn : Nat) (f : Nat → Int) (j : Nat) : wrowI R gn f j = 0 ↔ rvB (R j) = true ∧ 0 ≤ (R j).ix ∧ (R j).ix < (gn : Int) ∧ (0 < j → (R (j - 1)).ix < (R j).ix) ∧ (R j).gen = f (R j).ix.toNat := by
  unfold wrowI
  split
  · rename_i h
    constructor
    · intro h2; omega
    · rintro ⟨a, b, c, _⟩
      rcases h with h | h | h
      · rw [a] at h; cases h
      · omega
      · omega
  · rename_i h
    have h1 : rvB (R j) = true := by cases e : rvB (R j) <;> simp_all
    have h2 : 0 ≤ (R j).ix ∧ (R j).ix < (gn : Int) := by
      constructor
      · exact Int.not_lt.1 fun e => h (.inr (.inl e))
      · exact Int.not_le.1 fun e => h (.inr (.inr e))
    split
    · rename_i h3
      refine ⟨fun e => by omega, fun ⟨_, _, _, e, _⟩ => ?_⟩
      have := e h3.1; omega
    · rename_i h3
      split
      · rename_i h4
        exact ⟨fun _ => ⟨h1, h2.1, h2.2, fun e => Int.not_le.1 fun e2 => h3 ⟨e, e2⟩, h4⟩, fun _ => rfl⟩
      · rename_i h4
        exact ⟨fun e => by omega, fun ⟨_, _, _, _, e⟩ => absurd e h4⟩
theorem right_iff (X : Wd) : (wrongW X).1 = 0 ↔ RightW X := by
  unfold wrongW plainF
  split
  · rename_i h
    exact ⟨fun e => by simp at e, fun e => by have := e.gl; omega⟩
  · rename_i h
    rw [gTo_zero, rTo_zero]
    constructor
    · rintro ⟨h1, h2⟩
      have h3 : ∀ j, j < X.rows.length → _ := fun j hj => (wrowI_zero _ _ _ j).1 (h1 j (Nat.zero_le _) (by omega))
      exact ⟨by omega, fun j hj => h2 j (Nat.zero_le _) (by omega), fun j hj => (h3 j hj).1, fun j hj => (h3 j hj).2.1, fun j hj => (h3 j hj).2.2.1, fun j hj => (h3 (j + 1) hj).2.2.2.1 (by omega), fun j hj => (h3 j hj).2.2.2.2⟩
    · intro hr
      refine ⟨fun t _ ht => (wrowI_zero _ _ _ t).2 ?_, fun t _ ht => hr.gv t (by omega)⟩
      have ht' : t < X.rows.length := by omega
      refine ⟨hr.rv t ht', hr.i0 t ht', hr.il t ht', fun h0 => ?_, hr.ge t ht'⟩
      obtain ⟨s, rfl⟩ : ∃ s, t = s + 1 := ⟨t - 1, by omega⟩
      exact hr.up s ht'
theorem RightW.lt {X : Wd} (h : RightW X) : ∀ d i, i + d + 1 < X.rows.length → (rowOf X i).ix < (rowOf X (i + d + 1)).ix
  | 0, i, hi => h.up i hi
  | d + 1, i, hi => Int.lt_trans (h.lt d i (by omega)) (h.up (i + d + 1) hi)
theorem RightW.lt' {X : Wd} (h : RightW X) {i j : Nat} (hij : i < j) (hj : j < X.rows.length) : (rowOf X i).ix < (rowOf X j).ix := by
  have := h.lt (j - i - 1) i (by omega)
  rwa [show i + (j - i - 1) + 1 = j by omega] at this
theorem RightW.one {X : Wd} (h : RightW X) {i j : Nat} (hi : i < X.rows.length) (hj : j < X.rows.length) (e : (rowOf X i).ix = (rowOf X j).ix) : i = j := by
  rcases Nat.lt_trichotomy i j with l | l | l
  · have := h.lt' l hj; omega
  · exact l
  · have := h.lt' l hi; omega
theorem RightW.ge_ix {X : Wd} (h : RightW X) : ∀ j, j < X.rows.length → (j : Int) ≤ (rowOf X j).ix
  | 0, hj => by have := h.i0 0 hj; omega
  | j + 1, hj => by have := h.ge_ix j (by omega); have := h.up j hj; omega
theorem RightW.len {X : Wd} (h : RightW X) : X.rows.length ≤ X.gens.length := by
  rcases Nat.eq_zero_or_pos X.rows.length with e | e
  · omega
  · have h1 := h.ge_ix (X.rows.length - 1) (by omega)
    have h2 := h.il (X.rows.length - 1) (by omega)
    omega
theorem right_hr {X : Wd} (h : (wrongW X).1 = 0) : X.rows.length ≤ 60 ∧ X.gens.length ≤ 60 ∧ ∀ j, j < X.gens.length → 1 ≤ X.gens.getD j 0 := by
  have hr := (right_iff X).1 h
  have := hr.len
  have := hr.gl
  exact ⟨by omega, hr.gl, fun j hj => (hr.gv j hj).1⟩
theorem right_fit {X : Wd} (h : (wrongW X).1 = 0) : X.rows.length * 88 ≤ 140737488355328 ∧ X.gens.length * 8 ≤ 140737488355328 := by
  obtain ⟨h1, h2, _⟩ := right_hr h
  omega
end Go.Proofs.Ytnbleebilmghcab
