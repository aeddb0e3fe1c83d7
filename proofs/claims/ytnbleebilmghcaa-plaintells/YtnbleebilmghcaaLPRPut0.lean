/- The document's Put and Drop: their memory. -/
import Derived.Test.YtnbleebilmghcaaLRSame
set_option linter.unusedVariables false
set_option linter.unusedSimpArgs false
set_option linter.unnecessarySimpa false
namespace Go.Proofs.Ytnbleebilmghcaa
open Go Go.RowKit
attribute [local go_sem ↓] Go.wp_at_zero Go.wp_at_succ

theorem num_or_fin : ∀ m : Fin 256, ∀ p : Fin 8, numL [decide (p.val = 0) || tb (m.val : Int) 0, decide (p.val = 1) || tb (m.val : Int) 1, decide (p.val = 2) || tb (m.val : Int) 2, decide (p.val = 3) || tb (m.val : Int) 3, decide (p.val = 4) || tb (m.val : Int) 4, decide (p.val = 5) || tb (m.val : Int) 5, decide (p.val = 6) || tb (m.val : Int) 6, decide (p.val = 7) || tb (m.val : Int) 7] = bits .or .i64 (m.val : Int) (bitI (p.val : Int)) := by decide +kernel
theorem num_not_fin : ∀ m : Fin 256, ∀ p : Fin 8, numL [!decide (p.val = 0) && tb (m.val : Int) 0, !decide (p.val = 1) && tb (m.val : Int) 1, !decide (p.val = 2) && tb (m.val : Int) 2, !decide (p.val = 3) && tb (m.val : Int) 3, !decide (p.val = 4) && tb (m.val : Int) 4, !decide (p.val = 5) && tb (m.val : Int) 5, !decide (p.val = 6) && tb (m.val : Int) 6, !decide (p.val = 7) && tb (m.val : Int) 7] = bits .andNot .i64 (m.val : Int) (bitI (p.val : Int)) := by decide +kernel
structure YB (w : World) (u0 u1 : Value) (i g : Int) (y : Nat) (x : RowI) (W : World) : Prop extends CW w u0 u1 i g (.slice none 0 0) (.slice none 0 0) W where
  hy : w.heap.size + 3 ≤ y
  row : RowAt W y 0 x
  fr : ∀ j, W.frozen? ⟨y, j, none⟩ = false
section
variable {w W W1 : World} {u0 u1 : Value} {i g : Int} {y : Nat} {x : RowI}
theorem YB.ly (h : YB w u0 u1 i g y x W) : y < W.heap.size := World.block_lt_of_cell? W ⟨y, 0, none⟩ h.row.c0
theorem YB.below (h : YB w u0 u1 i g y x W) (hb : Below W.heap.size W W1) : YB w u0 u1 i g y x W1 :=
  ⟨h.toCW.below hb, h.hy, h.row.below hb, fun j => (hb.frozen (p := ⟨y, j, none⟩) h.ly).trans (h.fr j)⟩
theorem YB.setHas (h : YB w u0 u1 i g y x W) (q : Int) : YB w u0 u1 i g y ⟨x.ix, x.gen, q, x.v⟩ (W.setCell ⟨y, 2, none⟩ (.int .i64 q)) :=
  ⟨h.toCW.keep ((Below.refl _ _).setCell (p := ⟨y, 2, none⟩) h.hy _), h.hy, by have := rowAt_set_has h.row q; rwa [Nat.zero_add] at this, fun j => by simpa using h.fr j⟩
theorem YB.setV (h : YB w u0 u1 i g y x W) (k : Nat) (hk : k < 8) (n : Int) : YB w u0 u1 i g y ⟨x.ix, x.gen, x.has, fun j => if j = k then n else x.v j⟩ (W.setCell ⟨y, 3 + k, none⟩ (.int .i64 n)) :=
  ⟨h.toCW.keep ((Below.refl _ _).setCell (p := ⟨y, 3 + k, none⟩) h.hy _), h.hy, by have := rowAt_set_v h.row k hk n; rwa [Nat.zero_add] at this, fun j => by simpa using h.fr j⟩
theorem YB.new (h : CW w u0 u1 i g (.slice none 0 0) (.slice none 0 0) W) (x : RowI) : YB w u0 u1 i g W.heap.size x (W.alloc (.cells #[.int .i64 x.ix, .int .i64 x.gen, .int .i64 x.has, .int .i64 (x.v 0), .int .i64 (x.v 1), .int .i64 (x.v 2), .int .i64 (x.v 3), .int .i64 (x.v 4), .int .i64 (x.v 5), .int .i64 (x.v 6), .int .i64 (x.v 7)] 61)) := by
  obtain ⟨h1, h2⟩ := box_row W x 61
  exact ⟨h.below (bel1 _ _), h.sz, h1, h2⟩
theorem YB.other (h : YB w u0 u1 i g y x W) {b o : Nat} {v : Value} (hb : w.heap.size + 3 ≤ b) (hne : y ≠ b) : YB w u0 u1 i g y x (W.setCell ⟨b, o, none⟩ v) :=
  ⟨h.toCW.keep ((Below.refl _ _).setCell (p := ⟨b, o, none⟩) hb _), h.hy, rowAt_other hne.symm h.row, fun j => by simpa using h.fr j⟩
theorem YB.arr (h : YB w u0 u1 i g y x W) (a : Array Value) (q : Nat) (v : Value) : YB w u0 u1 i g y x ((W.alloc (.cells a 24)).setCell ⟨W.heap.size, q, none⟩ v) :=
  (h.below (bel1 W (.cells a 24))).other (Nat.le_trans h.hy (Nat.le_of_lt h.ly)) (Nat.ne_of_lt h.ly)
end
theorem set8 (h : Int) (v : Bool) (q : Nat) (hq : q < 8) (t : Nat) (ht : t < 8) (hl : t < ([Value.bool (tb h 0), Value.bool (tb h 1), Value.bool (tb h 2), Value.bool (tb h 3), Value.bool (tb h 4), Value.bool (tb h 5), Value.bool (tb h 6), Value.bool (tb h 7)].set q (Value.bool v)).length) : ([Value.bool (tb h 0), Value.bool (tb h 1), Value.bool (tb h 2), Value.bool (tb h 3), Value.bool (tb h 4), Value.bool (tb h 5), Value.bool (tb h 6), Value.bool (tb h 7)].set q (Value.bool v))[t] = .bool (if q = t then v else tb h t) := by
  rw [List.getElem_set]
  split
  · rfl
  · rcases (by omega : t = 0 ∨ t = 1 ∨ t = 2 ∨ t = 3 ∨ t = 4 ∨ t = 5 ∨ t = 6 ∨ t = 7) with rfl | rfl | rfl | rfl | rfl | rfl | rfl | rfl <;> rfl
end Go.Proofs.Ytnbleebilmghcaa
