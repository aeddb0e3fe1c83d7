/- Rows and numbers as lists; a copy of them that a call owns. -/
import Derived.Test.YtmbjghjpofcdpaaPWrong2
import Derived.Test.YtmbjghjpofcdpaaOwn
set_option linter.unusedVariables false
set_option linter.unusedSimpArgs false
set_option linter.unnecessarySimpa false
namespace Go.Proofs.Ytmbjghjpofcdpaa
open Go Go.RowKit

def dR : RowI := ⟨0, 0, 0, fun _ => 0⟩
def rowCells (x : RowI) : List Value := [.int .i64 x.ix, .int .i64 x.gen, .int .i64 x.has, .int .i64 (x.v 0), .int .i64 (x.v 1), .int .i64 (x.v 2), .int .i64 (x.v 3), .int .i64 (x.v 4), .int .i64 (x.v 5), .int .i64 (x.v 6), .int .i64 (x.v 7)]
def cellsOfRows (rows : List RowI) : List Value := rows.flatMap rowCells
def cellsOfInts (l : List Int) : List Value := l.map fun x => Value.int .i64 x
def RowsL (w : World) (A : Option Addr) (rows : List RowI) : Prop := RowsAt w A rows.length (fun j => rows.getD j dR)
def IntsL (w : World) (G : Option Addr) (l : List Int) : Prop := IntsAt w G l.length (fun j => l.getD j 0)
theorem RowsL.below {w w1 : World} {A : Option Addr} {rows : List RowI} (h : RowsL w A rows) (hb : Below w.heap.size w w1) : RowsL w1 A rows := RowsAt.below h hb
theorem IntsL.below {w w1 : World} {G : Option Addr} {l : List Int} (h : IntsL w G l) (hb : Below w.heap.size w w1) : IntsL w1 G l := IntsAt.below h hb
theorem rowCells_len (x : RowI) : (rowCells x).length = 11 := rfl
theorem cellsOfRows_len : ∀ rows : List RowI, (cellsOfRows rows).length = rows.length * 11
  | [] => rfl
  | x :: r => by
    have := cellsOfRows_len r
    unfold cellsOfRows at this ⊢
    rw [List.flatMap_cons, List.length_append, rowCells_len, this, List.length_cons]; omega
theorem cellsOfInts_len (l : List Int) : (cellsOfInts l).length = l.length * 1 := by simp [cellsOfInts]
theorem cellsOfRows_at : ∀ (rows : List RowI) (j i : Nat), j < rows.length → i < 11 → (cellsOfRows rows)[j * 11 + i]? = (rowCells (rows.getD j dR))[i]?
  | [], j, i, h, _ => by simp at h
  | x :: r, 0, i, _, hi => by
    unfold cellsOfRows
    rw [List.flatMap_cons, List.getElem?_append_left (by rw [rowCells_len]; omega)]
    simp
  | x :: r, j + 1, i, h, hi => by
    have := cellsOfRows_at r j i (by simpa using h) hi
    unfold cellsOfRows at this ⊢
    rw [List.flatMap_cons, List.getElem?_append_right (by rw [rowCells_len]; omega), rowCells_len, show (j + 1) * 11 + i - 11 = j * 11 + i by omega, this]
    simp
theorem cellsOfRows_one (rows : List RowI) : ∀ u ∈ cellsOfRows rows, u.oneCell' = true := by
  intro u hu
  unfold cellsOfRows at hu
  obtain ⟨x, _, hx⟩ := List.mem_flatMap.1 hu
  simp only [rowCells, List.mem_cons, List.not_mem_nil, or_false] at hx
  rcases hx with rfl | rfl | rfl | rfl | rfl | rfl | rfl | rfl | rfl | rfl | rfl <;> rfl
theorem cellsOfInts_one (l : List Int) : ∀ u ∈ cellsOfInts l, u.oneCell' = true := by
  intro u hu
  obtain ⟨x, _, rfl⟩ := List.mem_map.1 hu
  rfl
theorem add_off (b off j : Nat) : (⟨b, off, none⟩ : Addr).add j = ⟨b, off + j, none⟩ := by unfold Addr.add; split <;> simp_all
/-- The row's cells, one by one. -/
theorem rowAt_iff (w : World) (b o : Nat) (x : RowI) : RowAt w b o x ↔ ∀ i u, (rowCells x)[i]? = some u → w.cell? ⟨b, o + i, none⟩ = some u := by
  constructor
  · intro h i u hu
    have hi : i < 11 := by
      by_cases hh : i < 11
      · exact hh
      · rw [List.getElem?_eq_none (by rw [rowCells_len]; omega)] at hu; cases hu
    have v := h.v
    simp only [Nat.add_assoc] at v
    rcases (by omega : i = 0 ∨ i = 1 ∨ i = 2 ∨ i = 3 ∨ i = 4 ∨ i = 5 ∨ i = 6 ∨ i = 7 ∨ i = 8 ∨ i = 9 ∨ i = 10) with rfl | rfl | rfl | rfl | rfl | rfl | rfl | rfl | rfl | rfl | rfl <;> simp [rowCells] at hu <;> subst hu
    · exact h.c0
    · exact h.c1
    · exact h.c2
    · exact v 0 (by omega)
    · exact v 1 (by omega)
    · exact v 2 (by omega)
    · exact v 3 (by omega)
    · exact v 4 (by omega)
    · exact v 5 (by omega)
    · exact v 6 (by omega)
    · exact v 7 (by omega)
  · intro h
    refine ⟨h 0 _ rfl, h 1 _ rfl, h 2 _ rfl, fun k hk => ?_⟩
    rw [show o + 3 + k = o + (3 + k) by omega]
    refine h (3 + k) _ ?_
    rcases (by omega : k = 0 ∨ k = 1 ∨ k = 2 ∨ k = 3 ∨ k = 4 ∨ k = 5 ∨ k = 6 ∨ k = 7) with rfl | rfl | rfl | rfl | rfl | rfl | rfl | rfl <;> rfl
/-- What can be copied: n elements lie there. -/
def Copies (w : World) (A : Option Addr) (n size : Nat) (xs : List Value) : Prop := xs.length = n * size ∧ (∀ u ∈ xs, u.oneCell' = true) ∧ (n = 0 ∨ ∃ ad, A = some ad ∧ ∀ j u, xs[j]? = some u → w.cell? (ad.add j) = some u)
theorem RowsL.copies {w : World} {A : Option Addr} {rows : List RowI} (h : RowsL w A rows) : Copies w A rows.length 11 (cellsOfRows rows) := by
  refine ⟨cellsOfRows_len rows, cellsOfRows_one rows, ?_⟩
  by_cases h0 : rows.length = 0
  · exact .inl h0
  · right
    obtain ⟨b, off, hA, _⟩ := h 0 (by omega)
    refine ⟨⟨b, off, none⟩, hA, fun j u hu => ?_⟩
    have hj : j < rows.length * 11 := by
      by_cases hh : j < rows.length * 11
      · exact hh
      · rw [List.getElem?_eq_none (by rw [cellsOfRows_len]; omega)] at hu; cases hu
    obtain ⟨b', off', hA', hr⟩ := h (j / 11) (by omega)
    rw [hA] at hA'
    simp only [Option.some.injEq, Addr.mk.injEq, and_true] at hA'
    obtain ⟨rfl, rfl⟩ := hA'
    have := (rowAt_iff _ _ _ _).1 hr (j % 11) u (by rw [← cellsOfRows_at rows (j / 11) (j % 11) (by omega) (by omega)]; rw [show j / 11 * 11 + j % 11 = j by omega]; exact hu)
    rw [add_off, ← this]
    congr 2
    omega
theorem IntsL.copies {w : World} {G : Option Addr} {l : List Int} (h : IntsL w G l) : Copies w G l.length 1 (cellsOfInts l) := by
  refine ⟨cellsOfInts_len l, cellsOfInts_one l, ?_⟩
  by_cases h0 : l.length = 0
  · exact .inl h0
  · right
    obtain ⟨b, off, hA, _⟩ := h 0 (by omega)
    refine ⟨⟨b, off, none⟩, hA, fun j u hu => ?_⟩
    have hj : j < l.length := by
      by_cases hh : j < l.length
      · exact hh
      · rw [List.getElem?_eq_none (by rw [cellsOfInts_len]; omega)] at hu; cases hu
    obtain ⟨b', off', hA', hr⟩ := h j hj
    rw [hA] at hA'
    simp only [Option.some.injEq, Addr.mk.injEq, and_true] at hA'
    obtain ⟨rfl, rfl⟩ := hA'
    rw [add_off, hr]
    unfold cellsOfInts at hu
    rw [List.getElem?_map, List.getElem?_eq_getElem hj] at hu
    dsimp only
    rw [List.getD_eq_getElem?_getD, List.getElem?_eq_getElem hj]
    simpa using hu
theorem rowsL_own {W : World} {base : Nat} {v : Value} {rows : List RowI} (h : W.ownsRow base 61 11 v rows.length (cellsOfRows rows)) : ∃ A cap, v = .slice A rows.length cap ∧ RowsL W A rows := by
  by_cases h0 : 0 < rows.length
  · obtain ⟨g, cap, rfl, _, _⟩ := own_pos h h0
    refine ⟨some ⟨g, 0, none⟩, cap, rfl, fun j hj => ⟨g, 0, rfl, ?_⟩⟩
    refine (rowAt_iff _ _ _ _).2 fun i u hu => ?_
    have hi : i < 11 := by
      by_cases hh : i < 11
      · exact hh
      · rw [List.getElem?_eq_none (by rw [rowCells_len]; omega)] at hu; cases hu
    rw [Nat.zero_add]
    exact own_cell h (by rw [cellsOfRows_at rows j i hj hi]; exact hu)
  · obtain rfl : rows = [] := List.eq_nil_of_length_eq_zero (by omega)
    rcases h.2 with ⟨rfl, _⟩ | ⟨g, cap, cur, rfl, _⟩
    · exact ⟨none, 0, rfl, fun j hj => by simp at hj⟩
    · exact ⟨_, cap, rfl, fun j hj => by simp at hj⟩
theorem intsL_own {W : World} {base : Nat} {v : Value} {l : List Int} (h : W.ownsRow base 3 1 v l.length (cellsOfInts l)) : ∃ A cap, v = .slice A l.length cap ∧ IntsL W A l := by
  by_cases h0 : 0 < l.length
  · obtain ⟨g, cap, rfl, _, _⟩ := own_pos h h0
    refine ⟨some ⟨g, 0, none⟩, cap, rfl, fun j hj => ⟨g, 0, rfl, ?_⟩⟩
    rw [Nat.zero_add]
    refine own_cell h ?_
    unfold cellsOfInts
    dsimp only
    rw [List.getElem?_map, List.getElem?_eq_getElem hj, List.getD_eq_getElem?_getD, List.getElem?_eq_getElem hj]
    rfl
  · obtain rfl : l = [] := List.eq_nil_of_length_eq_zero (by omega)
    rcases h.2 with ⟨rfl, _⟩ | ⟨g, cap, cur, rfl, _⟩
    · exact ⟨none, 0, rfl, fun j hj => by simp at hj⟩
    · exact ⟨_, cap, rfl, fun j hj => by simp at hj⟩

/-- append(nil, s...): a copy that is owned. -/
theorem wp_append_copy {P : Program} (w : World) {o : Oper} {a : Act} {K : Act → World → Prop} {Q : Exit → Act → World → Prop} (s x : Operand) (t : TypeId)
    (ho : o.op = .call { callee := .builtin .append, args := #[s, x], argTypes := #[t, t] })
    (base : Nat) (e : TypeId) (i : TypeInfo) (z : Value) (size bytes : Nat) (ht : P.underlying t = some (.slice e)) (hi : P.info? e = some i) (hz : i.zero = some z)
    (hsize : i.size = size) (hby : i.bytes = bytes) (hzs : z.cells.size = size) (hsz : 0 < size)
    (hs : a.eval s = .slice none 0 0) (A : Option Addr) (n c : Nat) (xs : List Value) (hx : a.eval x = .slice A n c) (hc : Copies w A n size xs)
    (h63 : n ≤ maxLen) (hbytes : n * bytes ≤ 140737488355328) (hbase : base ≤ w.heap.size)
    (h : ∀ v' w', w'.ownsRow base e size v' n xs → w.grownBy w' none → K (a.put o.dst v') w') : o.wp P a w K Q := by
  obtain ⟨h1, h2, h3⟩ := hc
  rcases h3 with rfl | ⟨ad, rfl, h3⟩
  · have hx0 : xs = [] := List.eq_nil_of_length_eq_zero (by omega)
    subst hx0
    have hr : ∀ ty, (Builtin.append_ #[t, t] ty #[.slice none 0 0, .slice A 0 c]).run P w = .ok (.slice none 0 0) w := fun ty => by
      cases A <;> simp [Builtin.append_, run_underlying ht, sizeOf, typeInfo, hi, Builtin.lenOf, Builtin.firstCells, loadCells, loadCellsFrom]
    unfold Oper.wp execOp
    simp only [ho, resolve, invoke, builtin, Sem.run_bind, Sem.run_pure, Result.andThen_ok, List.map_toArray, List.map_cons, List.map_nil, hs, hx, hr]
    exact h _ _ (World.ownsRow_nil _ _ _ _) (World.grownBy.refl _ _)
  · refine wp_append_own w s x t ho base e i z size bytes ht hi hz hsize hby hzs hsz (.slice none 0 0) 0 [] hs (World.ownsRow_nil _ _ _ _) ad n c xs hx h1 h3 h2 (by omega) (by rw [Nat.zero_add]; exact hbytes) hbase fun v' w' h4 h5 _ => ?_
    rw [Nat.zero_add, List.nil_append] at h4
    exact h v' w' h4 h5
end Go.Proofs.Ytmbjghjpofcdpaa
