/- The document's Spawn: its memory. -/
import Derived.Test.YtnbleebilmghcaaLG
set_option linter.unusedVariables false
set_option linter.unusedSimpArgs false
set_option linter.unnecessarySimpa false
namespace Go.Proofs.Ytnbleebilmghcaa
open Go Go.RowKit
attribute [local go_sem ↓] Go.wp_at_zero Go.wp_at_succ

theorem wpList_append_onto {P : Program} (w : World) {ops : Array Oper} {rest : List Oper} {o : Oper} {a : Act} {Q : Exit → Act → World → Prop} (hgd : o.guard = none) (s x : Operand) (t : TypeId)
    (ho : o.op = .call { callee := .builtin .append, args := #[s, x], argTypes := #[t, t] })
    (base : Nat) (e : TypeId) (i : TypeInfo) (z : Value) (size bytes : Nat) (ht : P.underlying t = some (.slice e)) (hi : P.info? e = some i) (hz : i.zero = some z)
    (hsize : i.size = size) (hby : i.bytes = bytes) (hzs : z.cells.size = size) (hsz : 0 < size)
    (g : Nat) (hs : a.eval s = .slice (some ⟨g, 0, none⟩) 0 0) (hown : w.ownsRow base e size (.slice (some ⟨g, 0, none⟩) 0 0) 0 [])
    (A : Option Addr) (n c : Nat) (xs : List Value) (hx : a.eval x = .slice A n c) (hc : Copies w A n size xs)
    (h63 : n ≤ maxLen) (hbytes : n * bytes ≤ 140737488355328) (hbase : base ≤ w.heap.size)
    (h : ∀ v' w', w'.ownsRow base e size v' n xs → w.grownBy w' (some g) → wpList P ops Q rest (a.put o.dst v') w') : wpList P ops Q (o :: rest) a w := by
  obtain ⟨h1, h2, h3⟩ := hc
  rcases h3 with rfl | ⟨ad, rfl, h3⟩
  · have hx0 : xs = [] := List.eq_nil_of_length_eq_zero (by omega)
    subst hx0
    have hr : ∀ ty, (Builtin.append_ #[t, t] ty #[.slice (some ⟨g, 0, none⟩) 0 0, .slice A 0 c]).run P w = .ok (.slice (some ⟨g, 0, none⟩) 0 0) w := fun ty => by
      cases A <;> simp [Builtin.append_, run_underlying ht, sizeOf, typeInfo, hi, Builtin.lenOf, Builtin.firstCells, loadCells, loadCellsFrom, storeCells]
    refine wpList_plain hgd fun _ hK => ?_
    unfold Oper.wp execOp
    simp only [ho, resolve, invoke, builtin, Sem.run_bind, Sem.run_pure, Result.andThen_ok, List.map_toArray, List.map_cons, List.map_nil, hs, hx, hr]
    exact hK _ _ (h _ _ hown (World.grownBy.refl _ _))
  · refine wpList_append_own_at w hgd s x t ho base e i z size bytes ht hi hz hsize hby hzs hsz (.slice (some ⟨g, 0, none⟩) 0 0) 0 [] hs hown ad n c xs hx h1 h3 h2 (by omega) (by rw [Nat.zero_add]; exact hbytes) hbase ?_
    intro v' w' h4 h5 _ _
    rw [Nat.zero_add, List.nil_append] at h4
    exact h v' w' h4 h5
theorem own_empty (W : World) : (W.alloc (.cells #[] 3)).ownsRow W.heap.size 3 1 (.slice (some ⟨W.heap.size, 0, none⟩) 0 0) 0 [] :=
  ⟨rfl, .inr ⟨W.heap.size, 0, #[], rfl, Nat.le_refl _, (by show (W.heap.push _)[W.heap.size]? = _; simp), Nat.le_refl _, by unfold maxLen; omega, rfl, rfl⟩⟩

structure XB (w : World) (u0 u1 : Value) (b10 b12 : Nat) (i g : Int) (x : RowI) (W : World) : Prop where
  sb : SB w u0 u1 (.slice none 0 0) (.slice none 0 0) (.int .i64 0) (.int .i64 0) W
  i0 : W.cell? ⟨b10, 0, none⟩ = some (.int .i64 i)
  i1 : W.cell? ⟨b10, 1, none⟩ = some (.int .i64 g)
  row : RowAt W b12 0 x
  fr : ∀ j, W.frozen? ⟨b12, j, none⟩ = false
  h10 : w.heap.size + 3 ≤ b10
  h12 : b10 < b12
section
variable {w W W1 : World} {u0 u1 : Value} {b10 b12 : Nat} {i g : Int} {x : RowI}
theorem XB.ly (h : XB w u0 u1 b10 b12 i g x W) : b12 < W.heap.size := World.block_lt_of_cell? W ⟨b12, 0, none⟩ h.row.c0
theorem XB.keep (h : XB w u0 u1 b10 b12 i g x W) (hb : Below (b12 + 1) W W1) : XB w u0 u1 b10 b12 i g x W1 :=
  ⟨h.sb.keep (hb.mono (by have := h.h10; have := h.h12; omega)), (hb.cell (p := ⟨b10, 0, none⟩) (show b10 < b12 + 1 by have := h.h12; omega)).trans h.i0, (hb.cell (p := ⟨b10, 1, none⟩) (show b10 < b12 + 1 by have := h.h12; omega)).trans h.i1,
    ⟨(hb.cell (p := ⟨b12, 0, none⟩) (by simp)).trans h.row.c0, (hb.cell (p := ⟨b12, 0 + 1, none⟩) (by simp)).trans h.row.c1, (hb.cell (p := ⟨b12, 0 + 2, none⟩) (by simp)).trans h.row.c2, fun k hk => (hb.cell (p := ⟨b12, 0 + 3 + k, none⟩) (by simp)).trans (h.row.v k hk)⟩,
    fun j => (hb.frozen (p := ⟨b12, j, none⟩) (by simp)).trans (h.fr j), h.h10, h.h12⟩
theorem XB.below (h : XB w u0 u1 b10 b12 i g x W) (hb : Below W.heap.size W W1) : XB w u0 u1 b10 b12 i g x W1 := h.keep (hb.mono h.ly)
theorem XB.setV (h : XB w u0 u1 b10 b12 i g x W) (k : Nat) (hk : k < 8) (n : Int) : XB w u0 u1 b10 b12 i g ⟨x.ix, x.gen, x.has, fun j => if j = k then n else x.v j⟩ (W.setCell ⟨b12, 3 + k, none⟩ (.int .i64 n)) := by
  have hb : Below b12 W (W.setCell ⟨b12, 3 + k, none⟩ (.int .i64 n)) := (Below.refl _ _).setCell (p := ⟨b12, 3 + k, none⟩) (Nat.le_refl _) _
  exact ⟨h.sb.keep (hb.mono (by have := h.h10; have := h.h12; omega)), (hb.cell (p := ⟨b10, 0, none⟩) h.h12).trans h.i0, (hb.cell (p := ⟨b10, 1, none⟩) h.h12).trans h.i1, by have := rowAt_set_v h.row k hk n; rwa [Nat.zero_add] at this, fun j => by simpa using h.fr j, h.h10, h.h12⟩
theorem XB.start (h : SB w u0 u1 (.slice none 0 0) (.slice none 0 0) (.int .i64 0) (.int .i64 0) W) (i g has : Int) (f : Nat → Int) (hf : ∀ k, k < 8 → f k = 0) : XB w u0 u1 W.heap.size (W.heap.size + 1) i g ⟨i, g, has, f⟩ ((W.alloc (.cells #[.int .i64 i, .int .i64 g] 40)).alloc (.cells #[.int .i64 i, .int .i64 g, .int .i64 has, .int .i64 0, .int .i64 0, .int .i64 0, .int .i64 0, .int .i64 0, .int .i64 0, .int .i64 0, .int .i64 0] 61)) := by
  obtain ⟨a0, a1, af, ab⟩ := new_box (W := W) (u0 := .int .i64 i) (u1 := .int .i64 g) (t := 40) rfl
  have z : (W.alloc (.cells #[.int .i64 i, .int .i64 g] 40)).heap.size = W.heap.size + 1 := by simp
  have h1 := h.below ab
  generalize W.alloc (.cells #[.int .i64 i, .int .i64 g] 40) = W1 at *
  have hb := bel1 W1 (.cells #[.int .i64 i, .int .i64 g, .int .i64 has, .int .i64 0, .int .i64 0, .int .i64 0, .int .i64 0, .int .i64 0, .int .i64 0, .int .i64 0, .int .i64 0] 61)
  obtain ⟨h2, h3⟩ := box_row W1 ⟨i, g, has, fun _ => 0⟩ 61
  rw [z] at h2 h3
  exact ⟨h1.below hb, keep_below hb a0, keep_below hb a1, ⟨h2.c0, h2.c1, h2.c2, fun k hk => by show _ = some (Value.int .i64 (f k)); rw [hf k hk]; exact h2.v k hk⟩, h3, h.sz, Nat.lt_succ_self _⟩
end
structure GB (w : World) (u0 u1 : Value) (b10 b12 B : Nat) (i g : Int) (x : RowI) (v8 : Value) (gens : List Int) (W : World) : Prop where
  xb : XB w u0 u1 b10 b12 i g x W
  p8 : W.ownsRow B 3 1 v8 gens.length (cellsOfInts gens)
  hB : b12 < B
  hs : B ≤ W.heap.size
section
variable {w W W1 : World} {u0 u1 : Value} {b10 b12 B : Nat} {i g : Int} {x : RowI} {v8 v8' : Value} {gens gens' : List Int}
theorem GB.below (h : GB w u0 u1 b10 b12 B i g x v8 gens W) (hb : Below W.heap.size W W1) : GB w u0 u1 b10 b12 B i g x v8 gens W1 := ⟨h.xb.below hb, own_kept h.p8 hb, h.hB, Nat.le_trans h.hs hb.size⟩
theorem GB.row8 (h : GB w u0 u1 b10 b12 B i g x v8 gens W) : ∀ k, v8.ownBlock = some k → B ≤ k := fun k e => (h.p8.lt k e).1
theorem GB.give (h : GB w u0 u1 b10 b12 B i g x v8 gens W) (hg : W.grownBy W1 v8.ownBlock) (q8 : W1.ownsRow B 3 1 v8' gens'.length (cellsOfInts gens')) : GB w u0 u1 b10 b12 B i g x v8' gens' W1 := by
  have hb := grown_below hg h.row8 h.hs
  exact ⟨h.xb.keep (hb.mono h.hB), q8, h.hB, Nat.le_trans h.hs hb.size⟩
theorem GB.setG {g8 c8 ln : Nat} (h : GB w u0 u1 b10 b12 B i g x (.slice (some ⟨g8, 0, none⟩) ln c8) gens W) (hln : ln = gens.length) (k : Nat) (hk : k < gens.length) (n : Int) :
    GB w u0 u1 b10 b12 B i g x (.slice (some ⟨g8, 0, none⟩) ln c8) (gens.set k n) (W.setCell ⟨g8, k, none⟩ (.int .i64 n)) := by
  subst hln
  have q := own_set h.p8 (j := k) (by rw [cellsOfInts_len]; omega) (.int .i64 n)
  rw [cellsOfInts_set] at q
  exact h.give (grown_setc W g8 k (.int .i64 n)) (by rw [List.length_set]; exact q)
theorem GB.thereG {g8 c8 ln : Nat} (h : GB w u0 u1 b10 b12 B i g x (.slice (some ⟨g8, 0, none⟩) ln c8) gens W) (hln : ln = gens.length) (k : Nat) (hk : k < gens.length) : W.there g8 k 1 := by
  subst hln
  exact own_there h.p8 k 1 (by rw [cellsOfInts_len]; omega)
theorem GB.app {g8 c8 : Nat} (h : GB w u0 u1 b10 b12 B i g x v8 gens W) (q8 : W1.ownsRow B 3 1 (.slice (some ⟨g8, 0, none⟩) (gens.length + 1) c8) (gens.length + 1) (cellsOfInts gens ++ [.int .i64 0])) (hg : W.grownBy W1 v8.ownBlock) :
    GB w u0 u1 b10 b12 B i g x (.slice (some ⟨g8, 0, none⟩) (gens ++ [0]).length c8) (gens ++ [0]) W1 := by
  refine h.give hg ?_
  rw [show (gens ++ [(0 : Int)]).length = gens.length + 1 by simp, show cellsOfInts (gens ++ [0]) = cellsOfInts gens ++ [.int .i64 0] by simp [cellsOfInts]]
  exact q8
theorem GB.start (h : XB w u0 u1 b10 b12 i g x W) (hg : (W.alloc (.cells #[] 3)).grownBy W1 (some W.heap.size)) (q8 : W1.ownsRow W.heap.size 3 1 v8 gens.length (cellsOfInts gens)) : GB w u0 u1 b10 b12 W.heap.size i g x v8 gens W1 := by
  have hb : Below W.heap.size W W1 := (bel1 W (.cells #[] 3)).trans (grown_below hg (fun k e => by simp only [Option.some.injEq] at e; omega) (by simp))
  exact ⟨h.below hb, q8, h.ly, hb.size⟩
theorem GB.out {v5 c0 c1 : Value} {rows : List RowI} (h : GB w u0 u1 b10 b12 B i g x v8 gens W) (q5 : W.ownsRow B 61 11 v5 rows.length (cellsOfRows rows)) : ZB w u0 u1 b10 W.heap.size B i g c0 c1 v5 v8 rows gens (W.alloc (.cells #[c0, c1] 38)) := by
  have hb : Below W.heap.size W (W.alloc (.cells #[c0, c1] 38)) := (Below.refl _ _).alloc (Nat.le_refl _) _
  obtain ⟨a0, a1, af, ab⟩ := new_box (W := W) (u0 := c0) (u1 := c1) (t := 38) rfl
  exact ⟨h.xb.sb.below hb, keep_below hb h.xb.i0, keep_below hb h.xb.i1, a0, a1, af, own_kept q5 hb, own_kept h.p8 hb, by have := h.xb.h10; have := h.xb.h12; have := h.hB; omega, Nat.lt_trans h.xb.h12 h.hB, h.hs, ⟨#[c0, c1], (by show (W.heap.push _)[W.heap.size]? = _; simp)⟩⟩
end
def rowTo (i g has n : Int) (j : Nat) : RowI := ⟨i, g, has, fun t => if t < j ∧ tb has t = true then n else 0⟩
theorem rowTo_yes (i g has n : Int) (j : Nat) (h : tb has j = true) : rowTo i g has n (j + 1) = ⟨i, g, has, fun t => if t = j then n else (rowTo i g has n j).v t⟩ := by
  unfold rowTo
  congr 1
  funext t
  by_cases e : t = j
  · subst e; simp [h]
  · have : t < j + 1 ↔ t < j := by omega
    simp [e, this]
theorem rowTo_no (i g has n : Int) (j : Nat) (h : tb has j = false) : rowTo i g has n (j + 1) = rowTo i g has n j := by
  unfold rowTo
  congr 1
  funext t
  by_cases e : t = j
  · subst e; simp [h]
  · have : t < j + 1 ↔ t < j := by omega
    simp [this]
theorem rowTo_8 (i g has n : Int) : rowTo i g has n 8 = newR i g has n := rfl
theorem ix24 (has : Int) (j : Nat) (h : j < 8) (W : World) : (Instr.index 24 (.agg #[.bool (tb has 0), .bool (tb has 1), .bool (tb has 2), .bool (tb has 3), .bool (tb has 4), .bool (tb has 5), .bool (tb has 6), .bool (tb has 7)]) (.int .i64 (j : Int))).run Try.prog W = .ok (.bool (tb has j)) W := by
  rcases (by omega : j = 0 ∨ j = 1 ∨ j = 2 ∨ j = 3 ∨ j = 4 ∨ j = 5 ∨ j = 6 ∨ j = 7) with rfl | rfl | rfl | rfl | rfl | rfl | rfl | rfl <;> kernel_rfl
end Go.Proofs.Ytnbleebilmghcaa
