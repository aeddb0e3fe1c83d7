/- Stores by laws that leave a world without a text; a row in a box. -/
import Derived.Test.YtmbjghjpofcdpaaPOwn
set_option linter.unusedVariables false
set_option linter.unusedSimpArgs false
set_option linter.unnecessarySimpa false
namespace Go.Proofs.Ytmbjghjpofcdpaa
open Go Go.RowKit

theorem run_store1 {P : Program} (w : World) (b o : Nat) (ty : TypeId) (v : Value) (ht : w.there b o 1) (hi : (P.info? ty).map (·.size) = some 1) (h1 : v.oneCell' = true) :
    (storeVar ty ⟨b, o, none⟩ v).run P w = .ok () (w.setCell ⟨b, o, none⟩ v) := by
  have := run_storeCells_cells (P := P) b o [v] 0 w (fun j hj => by simpa using (ht j (by simpa using hj)).1) (fun j hj => by simpa using (ht j (by simpa using hj)).2) (fun u hu => by rw [List.mem_singleton] at hu; rw [hu]; exact h1)
  have hc : v.cells = #[v] := by cases v <;> first | rfl | cases h1
  cases hq : P.info? ty with
  | none => simp [hq] at hi
  | some i =>
    have hs : i.size = 1 := by simpa [hq] using hi
    simp only [Nat.add_zero] at this
    have e : w.setCells b o [v] = w.setCell ⟨b, o, none⟩ v := rfl
    rw [e] at this
    simp [storeVar, sizeOf, typeInfo, hq, hc, hs, this]
theorem wpList_put1 {P : Program} {ops : Array Oper} {rest : List Oper} {op : Oper} {a : Act} {w : World} {Q : Exit → Act → World → Prop} (hgd : op.guard = none) (ty : TypeId) (x y : Operand) (ho : op.op = .store ty x y)
    (b o : Nat) (v : Value) (hx : a.eval x = .pointer (some ⟨b, o, none⟩)) (hy : a.eval y = v) (h1 : v.oneCell' = true) (hi : (P.info? ty).map (·.size) = some 1) (ht : w.there b o 1)
    (h : ∀ W1, W1 = w.setCell ⟨b, o, none⟩ v → wpList P ops Q rest (a.put op.dst undef) W1) : wpList P ops Q (op :: rest) a w :=
  wpList_plain hgd fun _ hK => by
    unfold Oper.wp execOp
    simp only [ho, hx, hy, Instr.storeAt, Instr.sureAddr, Sem.run_bind, Sem.run_pure, Result.andThen_ok, run_store1 w b o ty v ht hi h1]
    exact hK _ _ (h _ rfl)
theorem wpList_putN {P : Program} {ops : Array Oper} {rest : List Oper} {op : Oper} {a : Act} {w : World} {Q : Exit → Act → World → Prop} (hgd : op.guard = none) (ty : TypeId) (x y : Operand) (ho : op.op = .store ty x y)
    (b o : Nat) (cells : List Value) (hx : a.eval x = .pointer (some ⟨b, o, none⟩)) (hy : a.eval y = .agg cells.toArray) (h1 : ∀ u ∈ cells, u.oneCell' = true) (hi : (P.info? ty).map (·.size) = some cells.length) (ht : w.there b o cells.length)
    (h : ∀ W1, W1 = w.setCells b o cells → wpList P ops Q rest (a.put op.dst undef) W1) : wpList P ops Q (op :: rest) a w :=
  wpList_store_mid hgd ty x y ho b o cells.toArray hx hy (by simpa using ht) (by simpa using hi) (all_oneCell_toArray h1) (h _ (by simp))
theorem there_of {w : World} {b o : Nat} {u : Value} (h : w.cell? ⟨b, o, none⟩ = some u) (hf : ∀ i, w.frozen? ⟨b, i, none⟩ = false) : w.there b o 1 := fun j hj => by
  obtain rfl : j = 0 := by omega
  exact ⟨by rw [Nat.add_zero, h]; rfl, hf _⟩

theorem addr_ne {b i j : Nat} (h : i ≠ j) : (⟨b, i, none⟩ : Addr) ≠ ⟨b, j, none⟩ := fun e => h (congrArg Addr.off e)
theorem rowAt_set_has {W : World} {b o : Nat} {x : RowI} (h : RowAt W b o x) (q : Int) : RowAt (W.setCell ⟨b, o + 2, none⟩ (.int .i64 q)) b o ⟨x.ix, x.gen, q, x.v⟩ :=
  ⟨setc_other (by simp) h.c0, setc_other (by simp) h.c1, setc_same h.c2, fun k hk => setc_other (addr_ne (by omega)) (h.v k hk)⟩
theorem rowAt_set_v {W : World} {b o : Nat} {x : RowI} (h : RowAt W b o x) (k : Nat) (hk : k < 8) (n : Int) : RowAt (W.setCell ⟨b, o + 3 + k, none⟩ (.int .i64 n)) b o ⟨x.ix, x.gen, x.has, fun j => if j = k then n else x.v j⟩ :=
  ⟨setc_other (addr_ne (by omega)) h.c0, setc_other (addr_ne (by omega)) h.c1, setc_other (addr_ne (by omega)) h.c2, fun j hj => by
    by_cases e : j = k
    · subst e; simp only [if_true]; exact setc_same (h.v j hj)
    · simp only [e, if_false]; exact setc_other (addr_ne (by omega)) (h.v j hj)⟩
theorem rowAt_other {W : World} {b b' o i : Nat} {x : RowI} {u : Value} (hb : b ≠ b') (h : RowAt W b' o x) : RowAt (W.setCell ⟨b, i, none⟩ u) b' o x :=
  ⟨setc_other (by simp [hb]) h.c0, setc_other (by simp [hb]) h.c1, setc_other (by simp [hb]) h.c2, fun j hj => setc_other (by simp [hb]) (h.v j hj)⟩
theorem setcs_other {W : World} {b o : Nat} {vs : List Value} {p : Addr} (hp : p.block ≠ b) : (W.setCells b o vs).cell? p = W.cell? p := World.cell?_setCells_out b vs o W p (fun h => absurd h hp)
theorem rowAt_others {W : World} {b b' o i : Nat} {x : RowI} {vs : List Value} (hb : b' ≠ b) (h : RowAt W b' o x) : RowAt (W.setCells b i vs) b' o x :=
  ⟨(setcs_other hb).trans h.c0, (setcs_other hb).trans h.c1, (setcs_other hb).trans h.c2, fun j hj => (setcs_other hb).trans (h.v j hj)⟩
theorem rowAt_put {W : World} {b o : Nat} (x : RowI) (ht : W.there b o 11) : RowAt (W.setCells b o (rowCells x)) b o x := by
  refine (rowAt_iff _ _ _ _).2 fun i u hu => ?_
  have hi : i < (rowCells x).length := by
    by_cases hh : i < (rowCells x).length
    · exact hh
    · rw [List.getElem?_eq_none (by omega)] at hu; cases hu
  rw [World.cell?_setCells_in b (rowCells x) o W (fun j hj => (ht j (by rw [rowCells_len] at hj; exact hj)).1) i hi, ← hu, List.getElem?_eq_getElem hi]
theorem rowCells_one (x : RowI) : ∀ u ∈ rowCells x, u.oneCell' = true := fun u hu => by
  have := cellsOfRows_one [x] u
  unfold cellsOfRows at this
  simpa using this (by simpa using hu)
theorem rowAt_there {W : World} {b o : Nat} {x : RowI} (h : RowAt W b o x) (hf : ∀ i, W.frozen? ⟨b, i, none⟩ = false) : W.there b o 11 := fun j hj => by
  have := (rowAt_iff _ _ _ _).1 h j ((rowCells x)[j]'(by rw [rowCells_len]; exact hj)) (List.getElem?_eq_getElem _)
  exact ⟨by rw [this]; rfl, hf _⟩

/-- A row's box, and the box of an answer behind it. -/
structure RB (w : World) (b c : Nat) (x y : RowI) (W : World) : Prop where
  bel : Below w.heap.size w W
  lo : w.heap.size ≤ b
  lc : w.heap.size ≤ c
  ne : b ≠ c
  r : RowAt W b 0 x
  s : RowAt W c 0 y
  fr : ∀ i, W.frozen? ⟨b, i, none⟩ = false
  fs : ∀ i, W.frozen? ⟨c, i, none⟩ = false
theorem RB.below {w W W1 : World} {b c : Nat} {x y : RowI} (h : RB w b c x y W) (hb : Below W.heap.size W W1) : RB w b c x y W1 :=
  ⟨h.bel.trans (hb.mono h.bel.size), h.lo, h.lc, h.ne, h.r.below hb, h.s.below hb, fun i => (hb.frozen (p := ⟨b, i, none⟩) (show b < W.heap.size from World.block_lt_of_cell? W ⟨b, 0, none⟩ h.r.c0)).trans (h.fr i), fun i => (hb.frozen (p := ⟨c, i, none⟩) (show c < W.heap.size from World.block_lt_of_cell? W ⟨c, 0, none⟩ h.s.c0)).trans (h.fs i)⟩
theorem RB.setHas {w W : World} {b c : Nat} {x y : RowI} (h : RB w b c x y W) (q : Int) : RB w b c ⟨x.ix, x.gen, q, x.v⟩ y (W.setCell ⟨b, 2, none⟩ (.int .i64 q)) :=
  ⟨h.bel.setCell (p := ⟨b, 2, none⟩) h.lo _, h.lo, h.lc, h.ne, by have := rowAt_set_has h.r q; rwa [Nat.zero_add] at this, rowAt_other h.ne h.s, fun i => by simpa using h.fr i, fun i => by simpa using h.fs i⟩
theorem RB.setV {w W : World} {b c : Nat} {x y : RowI} (h : RB w b c x y W) (k : Nat) (hk : k < 8) (n : Int) : RB w b c ⟨x.ix, x.gen, x.has, fun j => if j = k then n else x.v j⟩ y (W.setCell ⟨b, 3 + k, none⟩ (.int .i64 n)) :=
  ⟨h.bel.setCell (p := ⟨b, 3 + k, none⟩) h.lo _, h.lo, h.lc, h.ne, by have := rowAt_set_v h.r k hk n; rwa [Nat.zero_add] at this, rowAt_other h.ne h.s, fun i => by simpa using h.fr i, fun i => by simpa using h.fs i⟩
theorem RB.give {w W : World} {b c : Nat} {x y : RowI} (h : RB w b c x y W) (z : RowI) : RB w b c x z (W.setCells c 0 (rowCells z)) :=
  ⟨below_setCells c h.lc (rowCells z) 0 W h.bel, h.lo, h.lc, h.ne, rowAt_others h.ne h.r, rowAt_put z (rowAt_there h.s h.fs), fun i => by rw [World.frozen?_setCells]; exact h.fr i, fun i => by rw [World.frozen?_setCells]; exact h.fs i⟩
theorem box_row (w : World) (x : RowI) (t : TypeId) : RowAt (w.alloc (.cells (rowCells x).toArray t)) w.heap.size 0 x ∧ ∀ i, (w.alloc (.cells (rowCells x).toArray t)).frozen? ⟨w.heap.size, i, none⟩ = false := by
  refine ⟨(rowAt_iff _ _ _ _).2 fun i u hu => ?_, fun i => by simp [go_sem]⟩
  rw [Nat.zero_add]
  simp [hu]
theorem RB.start (w : World) (x y : RowI) : RB w w.heap.size (w.heap.size + 1) x y ((w.alloc (.cells (rowCells x).toArray 61)).alloc (.cells (rowCells y).toArray 61)) := by
  obtain ⟨h1, f1⟩ := box_row w x 61
  obtain ⟨h2, f2⟩ := box_row (w.alloc (.cells (rowCells x).toArray 61)) y 61
  have hb : Below (w.alloc (.cells (rowCells x).toArray 61)).heap.size (w.alloc (.cells (rowCells x).toArray 61)) ((w.alloc (.cells (rowCells x).toArray 61)).alloc (.cells (rowCells y).toArray 61)) := (Below.refl _ _).alloc (Nat.le_refl _) _
  have z : (w.alloc (.cells (rowCells x).toArray 61)).heap.size = w.heap.size + 1 := by simp
  refine ⟨((Below.refl _ _).alloc (Nat.le_refl _) _).alloc (by simp) _, Nat.le_refl _, by omega, by omega, h1.below hb, by rw [z] at h2; exact h2, fun i => (hb.frozen (p := ⟨w.heap.size, i, none⟩) (by simp)).trans (f1 i), fun i => by rw [z] at f2; exact f2 i⟩
end Go.Proofs.Ytmbjghjpofcdpaa
