/- The document's Needs answers what rule.Needs answers, of right systems. -/
import Derived.Test.YtnbleebilmghcabBRWrong
import Derived.Test.YtnbleebilmghcabBTail
set_option linter.unusedVariables false
set_option linter.unusedSimpArgs false
set_option linter.unnecessarySimpa false
namespace Go.Proofs.Ytnbleebilmghcab
open Go.RowKit
attribute [local go_sem ↓] Go.wp_at_zero Go.wp_at_succ

structure NR (w : World) (al : Int) (rA wA : Nat → Bool) (mv lf : Bool) (wr : World) : Prop where
  bel : Below w.heap.size w wr
  e1 : wr.cell? ⟨w.heap.size, 1, none⟩ = some (.int .i64 al)
  t : wr.there (w.heap.size + 1) 0 4
  r : ∀ q, q < 8 → wr.cell? ⟨w.heap.size + 1 + 1, q, none⟩ = some (.bool (rA q))
  fr : ∀ i, wr.frozen? ⟨w.heap.size + 1 + 1, i, none⟩ = false
  u : ∀ q, q < 8 → wr.cell? ⟨w.heap.size + 1 + 1 + 1, q, none⟩ = some (.bool (wA q))
  fu : ∀ i, wr.frozen? ⟨w.heap.size + 1 + 1 + 1, i, none⟩ = false
  n0 : wr.cell? ⟨w.heap.size + 1 + 1 + 1 + 1, 0, none⟩ = some (.int .i64 0)
  n1 : wr.cell? ⟨w.heap.size + 1 + 1 + 1 + 1, 1, none⟩ = some (.int .i64 0)
  n2 : wr.cell? ⟨w.heap.size + 1 + 1 + 1 + 1, 2, none⟩ = some (.bool mv)
  n3 : wr.cell? ⟨w.heap.size + 1 + 1 + 1 + 1, 3, none⟩ = some (.bool lf)
  fn : ∀ i, wr.frozen? ⟨w.heap.size + 1 + 1 + 1 + 1, i, none⟩ = false
section
variable {w wr w1 : World} {al : Int} {rA wA : Nat → Bool} {mv lf : Bool}
theorem NR.below (h : NR w al rA wA mv lf wr) (hb : Below wr.heap.size wr w1) : NR w al rA wA mv lf w1 := by
  have z := World.block_lt_of_cell? wr _ h.n0
  have z2 := World.block_lt_of_cell? wr _ (h.r 0 (by omega))
  have z3 := World.block_lt_of_cell? wr _ (h.u 0 (by omega))
  exact ⟨h.bel.trans (hb.mono h.bel.size), keep_below hb h.e1, there_below hb (by dsimp only at z2; omega) h.t, fun q hq => keep_below hb (h.r q hq), fun i => (hb.frozen (p := ⟨w.heap.size + 1 + 1, i, none⟩) z2).trans (h.fr i),
    fun q hq => keep_below hb (h.u q hq), fun i => (hb.frozen (p := ⟨w.heap.size + 1 + 1 + 1, i, none⟩) z3).trans (h.fu i), keep_below hb h.n0, keep_below hb h.n1, keep_below hb h.n2, keep_below hb h.n3,
    fun i => (hb.frozen (p := ⟨w.heap.size + 1 + 1 + 1 + 1, i, none⟩) z).trans (h.fn i)⟩
theorem NR.setR (h : NR w al rA wA mv lf wr) (q : Nat) (b : Bool) : NR w al (fun i => if i = q then b else rA i) wA mv lf (wr.setCell ⟨w.heap.size + 1 + 1, q, none⟩ (.bool b)) := by
  refine ⟨h.bel.setCell (p := ⟨w.heap.size + 1 + 1, q, none⟩) (by simp <;> omega) _, cell_other (by simp <;> omega) h.e1, World.there_setCells h.t (w.heap.size + 1 + 1) q [.bool b], fun i hi => ?_, fun i => by rw [World.frozen?_setCell]; exact h.fr i,
    fun i hi => cell_other (by simp <;> omega) (h.u i hi), fun i => by rw [World.frozen?_setCell]; exact h.fu i, cell_other (by simp <;> omega) h.n0, cell_other (by simp <;> omega) h.n1, cell_other (by simp <;> omega) h.n2, cell_other (by simp <;> omega) h.n3, fun i => by rw [World.frozen?_setCell]; exact h.fn i⟩
  by_cases e : i = q
  · subst e; simp only [if_true]; exact cell_same (h.r i hi)
  · simp only [e, if_false]; exact cell_other (by simp <;> omega) (h.r i hi)
theorem NR.setU (h : NR w al rA wA mv lf wr) (q : Nat) (b : Bool) : NR w al rA (fun i => if i = q then b else wA i) mv lf (wr.setCell ⟨w.heap.size + 1 + 1 + 1, q, none⟩ (.bool b)) := by
  refine ⟨h.bel.setCell (p := ⟨w.heap.size + 1 + 1 + 1, q, none⟩) (by simp <;> omega) _, cell_other (by simp <;> omega) h.e1, World.there_setCells h.t (w.heap.size + 1 + 1 + 1) q [.bool b], fun i hi => cell_other (by simp <;> omega) (h.r i hi), fun i => by rw [World.frozen?_setCell]; exact h.fr i,
    fun i hi => ?_, fun i => by rw [World.frozen?_setCell]; exact h.fu i, cell_other (by simp <;> omega) h.n0, cell_other (by simp <;> omega) h.n1, cell_other (by simp <;> omega) h.n2, cell_other (by simp <;> omega) h.n3, fun i => by rw [World.frozen?_setCell]; exact h.fn i⟩
  by_cases e : i = q
  · subst e; simp only [if_true]; exact cell_same (h.u i hi)
  · simp only [e, if_false]; exact cell_other (by simp <;> omega) (h.u i hi)
theorem NR.setM (h : NR w al rA wA mv lf wr) (b : Bool) : NR w al rA wA b lf (wr.setCell ⟨w.heap.size + 1 + 1 + 1 + 1, 2, none⟩ (.bool b)) :=
  ⟨h.bel.setCell (p := ⟨w.heap.size + 1 + 1 + 1 + 1, 2, none⟩) (by simp <;> omega) _, cell_other (by simp <;> omega) h.e1, World.there_setCells h.t (w.heap.size + 1 + 1 + 1 + 1) 2 [.bool b], fun i hi => cell_other (by simp <;> omega) (h.r i hi), fun i => by rw [World.frozen?_setCell]; exact h.fr i,
    fun i hi => cell_other (by simp <;> omega) (h.u i hi), fun i => by rw [World.frozen?_setCell]; exact h.fu i, cell_other (by simp) h.n0, cell_other (by simp) h.n1, cell_same h.n2, cell_other (by simp) h.n3, fun i => by rw [World.frozen?_setCell]; exact h.fn i⟩
theorem NR.setL (h : NR w al rA wA mv lf wr) (b : Bool) : NR w al rA wA mv b (wr.setCell ⟨w.heap.size + 1 + 1 + 1 + 1, 3, none⟩ (.bool b)) :=
  ⟨h.bel.setCell (p := ⟨w.heap.size + 1 + 1 + 1 + 1, 3, none⟩) (by simp <;> omega) _, cell_other (by simp <;> omega) h.e1, World.there_setCells h.t (w.heap.size + 1 + 1 + 1 + 1) 3 [.bool b], fun i hi => cell_other (by simp <;> omega) (h.r i hi), fun i => by rw [World.frozen?_setCell]; exact h.fr i,
    fun i hi => cell_other (by simp <;> omega) (h.u i hi), fun i => by rw [World.frozen?_setCell]; exact h.fu i, cell_other (by simp) h.n0, cell_other (by simp) h.n1, cell_other (by simp) h.n2, cell_same h.n3, fun i => by rw [World.frozen?_setCell]; exact h.fn i⟩
theorem NR.congr {rB wB : Nat → Bool} (h : NR w al rA wA mv lf wr) (hr : ∀ q, q < 8 → rB q = rA q) (hu : ∀ q, q < 8 → wB q = wA q) : NR w al rB wB mv lf wr :=
  ⟨h.bel, h.e1, h.t, fun q hq => by rw [hr q hq]; exact h.r q hq, h.fr, fun q hq => by rw [hu q hq]; exact h.u q hq, h.fu, h.n0, h.n1, h.n2, h.n3, h.fn⟩
def falses : Array Value := #[.bool false, .bool false, .bool false, .bool false, .bool false, .bool false, .bool false, .bool false]
theorem falses_new (w : World) (t : TypeId) (q : Nat) (hq : q < 8) : (w.alloc (.cells falses t)).cell? ⟨w.heap.size, q, none⟩ = some (.bool false) := by
  rcases (by omega : q = 0 ∨ q = 1 ∨ q = 2 ∨ q = 3 ∨ q = 4 ∨ q = 5 ∨ q = 6 ∨ q = 7) with rfl | rfl | rfl | rfl | rfl | rfl | rfl | rfl <;> simp [falses]
theorem NR.start (m no : Int) (A : Option Addr) (len cap : Nat) : NR w al (fun _ => false) (fun _ => false) false false
    (((((w.alloc (.cells #[.int .i64 m, .int .i64 al, .int .i64 no, .slice A len cap] 26)).alloc (.cells #[.int .i64 0, .int .i64 0, .bool false, .bool false] 34)).alloc (.cells falses 92)).alloc (.cells falses 92)).alloc (.cells #[.int .i64 0, .int .i64 0, .bool false, .bool false] 34)) := by
  obtain ⟨w1, h1⟩ : ∃ W, W = w.alloc (.cells #[.int .i64 m, .int .i64 al, .int .i64 no, .slice A len cap] 26) := ⟨_, rfl⟩
  have z1 : w1.heap.size = w.heap.size + 1 := by rw [h1]; simp
  have b1 : Below w.heap.size w w1 := by rw [h1]; exact (Below.refl _ _).alloc (Nat.le_refl _) _
  have e1 : w1.cell? ⟨w.heap.size, 1, none⟩ = some (.int .i64 al) := by rw [h1]; simp
  rw [← h1]
  clear h1
  obtain ⟨w2, h2⟩ : ∃ W, W = w1.alloc (.cells #[.int .i64 0, .int .i64 0, .bool false, .bool false] 34) := ⟨_, rfl⟩
  have z2 : w2.heap.size = w.heap.size + 1 + 1 := by rw [h2]; simp [z1]
  have b2 : Below w1.heap.size w1 w2 := by rw [h2]; exact (Below.refl _ _).alloc (Nat.le_refl _) _
  have t2 : w2.there (w.heap.size + 1) 0 4 := by rw [h2, ← z1]; exact there_cells w1 _ _
  rw [← h2]
  clear h2
  obtain ⟨w3, h3⟩ : ∃ W, W = w2.alloc (.cells falses 92) := ⟨_, rfl⟩
  have z3 : w3.heap.size = w.heap.size + 1 + 1 + 1 := by rw [h3]; simp [z2]
  have b3 : Below w2.heap.size w2 w3 := by rw [h3]; exact (Below.refl _ _).alloc (Nat.le_refl _) _
  have r3 : ∀ q, q < 8 → w3.cell? ⟨w.heap.size + 1 + 1, q, none⟩ = some (.bool false) := fun q hq => by rw [h3, ← z2]; exact falses_new w2 92 q hq
  have f3 : ∀ i, w3.frozen? ⟨w.heap.size + 1 + 1, i, none⟩ = false := fun i => by rw [h3, ← z2]; simp [go_sem]
  rw [← h3]
  clear h3
  obtain ⟨w4, h4⟩ : ∃ W, W = w3.alloc (.cells falses 92) := ⟨_, rfl⟩
  have z4 : w4.heap.size = w.heap.size + 1 + 1 + 1 + 1 := by rw [h4]; simp [z3]
  have b4 : Below w3.heap.size w3 w4 := by rw [h4]; exact (Below.refl _ _).alloc (Nat.le_refl _) _
  have r4 : ∀ q, q < 8 → w4.cell? ⟨w.heap.size + 1 + 1 + 1, q, none⟩ = some (.bool false) := fun q hq => by rw [h4, ← z3]; exact falses_new w3 92 q hq
  have f4 : ∀ i, w4.frozen? ⟨w.heap.size + 1 + 1 + 1, i, none⟩ = false := fun i => by rw [h4, ← z3]; simp [go_sem]
  rw [← h4]
  clear h4
  have b5 : Below w4.heap.size w4 (w4.alloc (.cells #[.int .i64 0, .int .i64 0, .bool false, .bool false] 34)) := (Below.refl _ _).alloc (Nat.le_refl _) _
  have b14 : Below w1.heap.size w1 w4 := b2.trans ((b3.trans (b4.mono b3.size)).mono b2.size)
  have b24 : Below w2.heap.size w2 w4 := b3.trans (b4.mono b3.size)
  refine ⟨b1.trans ((b14.trans (b5.mono b14.size)).mono b1.size), keep_below b5 (keep_below b14 e1), there_below b5 (by omega) (there_below b24 (by omega) t2), fun q hq => keep_below b5 (keep_below b4 (r3 q hq)),
    fun i => (b5.frozen (p := ⟨w.heap.size + 1 + 1, i, none⟩) (by show w.heap.size + 1 + 1 < w4.heap.size; omega)).trans ((b4.frozen (p := ⟨w.heap.size + 1 + 1, i, none⟩) (by show w.heap.size + 1 + 1 < w3.heap.size; omega)).trans (f3 i)),
    fun q hq => keep_below b5 (r4 q hq), fun i => (b5.frozen (p := ⟨w.heap.size + 1 + 1 + 1, i, none⟩) (by show w.heap.size + 1 + 1 + 1 < w4.heap.size; omega)).trans (f4 i), ?_, ?_, ?_, ?_, fun i => ?_⟩ <;> rw [← z4] <;> simp [go_sem]
end

/-- A right system's acts, each. -/
theorem gr_ex (al : Int) (a : Nat → ActI) (hal : setB al = true) : ∀ j, okN al a j → ∃ g, GR al g (rbTo al a j)
  | 0, _ => ⟨_, GR.start hal⟩
  | j + 1, h => by
    obtain ⟨g, hg⟩ := gr_ex al a hal j (fun i hi => h i (by omega))
    have hr := (wa_range _ _ _ _ _ (h j (by omega))).1
    show ∃ g, GR al g (bits .and .i64 (afI (a j).k (a j).p (rbTo al a j)) al)
    generalize a j = y at *
    obtain ⟨k, p, f, n⟩ := y
    dsimp only at *
    have hp : ∀ p : Int, partB p = true → ∃ q : Nat, q < 8 ∧ p = (q : Int) := fun p hp => ⟨p.toNat, by have := of_decide_eq_true hp; omega, by have := of_decide_eq_true hp; omega⟩
    unfold afI
    by_cases h12 : k = 1 ∨ k = 2
    · rw [if_pos h12]
      obtain ⟨q, hq, rfl⟩ := hp p (by rcases h12 with rfl | rfl <;> simp [rgB] at hr <;> exact hr.1)
      exact ⟨_, hg.put q hq⟩
    · rw [if_neg h12]
      by_cases h5 : k = 5
      · rw [if_pos h5]
        obtain ⟨q, hq, rfl⟩ := hp p (by subst h5; simpa [rgB] using hr)
        exact ⟨_, hg.drop q hq⟩
      · rw [if_neg h5]
        exact ⟨_, hg.same⟩
/-- What is read is in All. -/
theorem read_all {al r : Int} {g : Nat → Bool} (hg : GR al g r) (q : Nat) (hq : q < 8) (h : tb r q = true) : tb al q = true := by
  rw [hg.eq q hq, Bool.and_eq_true] at h
  exact h.1
theorem tb_zero (k : Nat) (hk : k < 8) : tb 0 k = false := by
  rcases (by omega : k = 0 ∨ k = 1 ∨ k = 2 ∨ k = 3 ∨ k = 4 ∨ k = 5 ∨ k = 6 ∨ k = 7) with rfl | rfl | rfl | rfl | rfl | rfl | rfl | rfl <;> decide
end Go.Proofs.Ytnbleebilmghcab
