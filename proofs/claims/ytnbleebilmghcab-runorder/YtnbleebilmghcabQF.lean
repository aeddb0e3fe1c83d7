/- PSpawn0, PSpawn -/
import Derived.Lib.SmallJoins
import Derived.Deep.AppendLies
import Derived.Test.YtnbleebilmghcabQA
import Derived.Test.YtnbleebilmghcabQE
set_option linter.all false
namespace Go.Proofs.Ytnbleebilmghcab
open Go Go.RowKit
attribute [local go_sem ↓] Go.wp_at_zero Go.wp_at_succ
theorem size26 : (Try.prog.info? 38).map (·.size) = some 1 := by kernel_rfl
def gensF (gens : List Int) (i g : Int) : List Int := if i = (gens.length : Int) then gens ++ [g] else gens.set i.toNat g
def spawnF (X : Wd) (has n : Int) : Int × (Int × Int) × Wd :=
  if (wrongW X).1 ≠ 0 then ((wrongW X).1, (0, 0), emptyW) else if (setB has && valB n) = false then (3, (0, 0), emptyW) else
    if (nextF X).2 ≠ 0 then ((nextF X).2, (0, 0), emptyW) else (0, (nextF X).1, ⟨insR X.rows (placeN X.rows (nextF X).1.1) (newR (nextF X).1.1 (nextF X).1.2 has n), gensF X.gens (nextF X).1.1 (nextF X).1.2⟩)
structure SB (w : World) (u0 u1 y0 y1 z0 z1 : Value) (W : World) : Prop where
  bel : Below w.heap.size w W
  sz : w.heap.size + 3 ≤ W.heap.size
  r0 : W.cell? ⟨w.heap.size, 0, none⟩ = some u0
  r1 : W.cell? ⟨w.heap.size, 1, none⟩ = some u1
  t0 : W.cell? ⟨w.heap.size + 1, 0, none⟩ = some y0
  t1 : W.cell? ⟨w.heap.size + 1, 1, none⟩ = some y1
  s0 : W.cell? ⟨w.heap.size + 2, 0, none⟩ = some z0
  s1 : W.cell? ⟨w.heap.size + 2, 1, none⟩ = some z1
  f : ∀ i, W.frozen? ⟨w.heap.size + 1, i, none⟩ = false
  k : ∀ i, W.frozen? ⟨w.heap.size + 2, i, none⟩ = false
section
variable {w W W1 : World} {u0 u1 y0 y1 z0 z1 : Value}
theorem SB.keep (h : SB w u0 u1 y0 y1 z0 z1 W) (hb : Below (w.heap.size + 3) W W1) : SB w u0 u1 y0 y1 z0 z1 W1 :=
  ⟨h.bel.trans (hb.mono (by omega)), Nat.le_trans h.sz hb.size, (hb.cell (p := ⟨w.heap.size, 0, none⟩) (by simp)).trans h.r0, (hb.cell (p := ⟨w.heap.size, 1, none⟩) (by simp)).trans h.r1, (hb.cell (p := ⟨w.heap.size + 1, 0, none⟩) (by simp)).trans h.t0, (hb.cell (p := ⟨w.heap.size + 1, 1, none⟩) (by simp)).trans h.t1,
    (hb.cell (p := ⟨w.heap.size + 2, 0, none⟩) (by simp)).trans h.s0, (hb.cell (p := ⟨w.heap.size + 2, 1, none⟩) (by simp)).trans h.s1, fun i => (hb.frozen (p := ⟨w.heap.size + 1, i, none⟩) (by simp)).trans (h.f i), fun i => (hb.frozen (p := ⟨w.heap.size + 2, i, none⟩) (by simp)).trans (h.k i)⟩
theorem SB.below (h : SB w u0 u1 y0 y1 z0 z1 W) (hb : Below W.heap.size W W1) : SB w u0 u1 y0 y1 z0 z1 W1 := h.keep (hb.mono h.sz)
theorem SB.thereA (h : SB w u0 u1 y0 y1 z0 z1 W) : W.there (w.heap.size + 1) 0 2 := fun j hj => by
  rcases (by omega : j = 0 ∨ j = 1) with rfl | rfl
  · exact ⟨by rw [Nat.zero_add, h.t0]; rfl, h.f _⟩
  · exact ⟨by rw [Nat.zero_add, h.t1]; rfl, h.f _⟩
theorem SB.thereB (h : SB w u0 u1 y0 y1 z0 z1 W) : W.there (w.heap.size + 2) 0 2 := fun j hj => by
  rcases (by omega : j = 0 ∨ j = 1) with rfl | rfl
  · exact ⟨by rw [Nat.zero_add, h.s0]; rfl, h.k _⟩
  · exact ⟨by rw [Nat.zero_add, h.s1]; rfl, h.k _⟩
theorem SB.giveA (h : SB w u0 u1 y0 y1 z0 z1 W) (a0 a1 : Value) : SB w u0 u1 a0 a1 z0 z1 (W.setCells (w.heap.size + 1) 0 [a0, a1]) := by
  have o : ∀ p : Addr, p.block ≠ w.heap.size + 1 → (W.setCells (w.heap.size + 1) 0 [a0, a1]).cell? p = W.cell? p := fun p hp => setcs_other hp
  have s := fun j hj => World.cell?_setCells_in (w.heap.size + 1) [a0, a1] 0 W (fun j hj => (h.thereA j hj).1) j hj
  exact ⟨below_setCells (w.heap.size + 1) (by omega) [a0, a1] 0 W h.bel, by rw [size_setCells]; exact h.sz, (o _ (by simp)).trans h.r0, (o _ (by simp)).trans h.r1, s 0 (by simp), s 1 (by simp), (o _ (by simp)).trans h.s0, (o _ (by simp)).trans h.s1, fun i => by rw [World.frozen?_setCells]; exact h.f i, fun i => by rw [World.frozen?_setCells]; exact h.k i⟩
theorem SB.giveB (h : SB w u0 u1 y0 y1 z0 z1 W) (a0 a1 : Value) : SB w u0 u1 y0 y1 a0 a1 (W.setCells (w.heap.size + 2) 0 [a0, a1]) := by
  have o : ∀ p : Addr, p.block ≠ w.heap.size + 2 → (W.setCells (w.heap.size + 2) 0 [a0, a1]).cell? p = W.cell? p := fun p hp => setcs_other hp
  have s := fun j hj => World.cell?_setCells_in (w.heap.size + 2) [a0, a1] 0 W (fun j hj => (h.thereB j hj).1) j hj
  exact ⟨below_setCells (w.heap.size + 2) (by omega) [a0, a1] 0 W h.bel, by rw [size_setCells]; exact h.sz, (o _ (by simp)).trans h.r0, (o _ (by simp)).trans h.r1, (o _ (by simp)).trans h.t0, (o _ (by simp)).trans h.t1, s 0 (by simp), s 1 (by simp), fun i => by rw [World.frozen?_setCells]; exact h.f i, fun i => by rw [World.frozen?_setCells]; exact h.k i⟩
end
theorem SB.start (w : World) (u0 u1 : Value) : SB w u0 u1 (.slice none 0 0) (.slice none 0 0) (.int .i64 0) (.int .i64 0) (((w.alloc (.cells #[u0, u1] 40)).alloc (.cells #[.slice none 0 0, .slice none 0 0] 40)).alloc (.cells #[.int .i64 0, .int .i64 0] 50)) := by
  obtain ⟨w1, h1⟩ : ∃ W, W = w.alloc (.cells #[u0, u1] 40) := ⟨_, rfl⟩
  have z1 : w1.heap.size = w.heap.size + 1 := by rw [h1]; simp
  have n1 := NW1.start w u0 u1
  rw [← h1] at n1 ⊢
  clear h1
  obtain ⟨a0, a1, af, ab⟩ := new_box (W := w1) (u0 := .slice none 0 0) (u1 := .slice none 0 0) (t := 40) z1
  obtain ⟨w2, h2⟩ : ∃ W, W = w1.alloc (.cells #[.slice none 0 0, .slice none 0 0] 40) := ⟨_, rfl⟩
  rw [← h2] at a0 a1 af ab ⊢
  have z2 : w2.heap.size = w.heap.size + 2 := by rw [h2]; simp; omega
  obtain ⟨c0, c1, cf, cb⟩ := new_box (W := w2) (u0 := .int .i64 0) (u1 := .int .i64 0) (t := 50) z2
  have n3 := (n1.below ab).below cb
  exact ⟨n3.bel, by simp; omega, n3.r0, n3.r1, keep_below cb a0, keep_below cb a1, c0, c1, fun i => (cb.frozen (p := ⟨w.heap.size + 1, i, none⟩) (by show w.heap.size + 1 < w2.heap.size; omega)).trans (af i), cf⟩
theorem grown_setc (W : World) (b i : Nat) (v : Value) : W.grownBy (W.setCell ⟨b, i, none⟩ v) (some b) :=
  ⟨rfl, rfl, rfl, by simp, fun k hk hne => Below.heap_setCell W ⟨b, i, none⟩ v k (fun e => hne (by rw [e]))⟩
theorem block_lt {W : World} {p : Addr} {v : Value} (h : W.cell? p = some v) : p.block < W.heap.size := World.block_lt_of_cell? W p h
structure ZB (w : World) (u0 u1 : Value) (b10 b12 B : Nat) (i g : Int) (c0 c1 v5 v8 : Value) (rows : List RowI) (gens : List Int) (W : World) : Prop where
  sb : SB w u0 u1 (.slice none 0 0) (.slice none 0 0) (.int .i64 0) (.int .i64 0) W
  i0 : W.cell? ⟨b10, 0, none⟩ = some (.int .i64 i)
  i1 : W.cell? ⟨b10, 1, none⟩ = some (.int .i64 g)
  o0 : W.cell? ⟨b12, 0, none⟩ = some c0
  o1 : W.cell? ⟨b12, 1, none⟩ = some c1
  fz : ∀ j, W.frozen? ⟨b12, j, none⟩ = false
  p5 : W.ownsRow B 53 11 v5 rows.length (cellsOfRows rows)
  p8 : W.ownsRow B 3 1 v8 gens.length (cellsOfInts gens)
  hB : w.heap.size + 3 ≤ B
  h10 : b10 < B
  h12 : B ≤ b12
  ty : ∃ cs, W.heap[b12]? = some (.cells cs 40 (0, 0))
theorem own_nety {W : World} {B : Nat} {e : TypeId} {size n : Nat} {v : Value} {xs : List Value} (h : W.ownsRow B e size v n xs) {b : Nat} {t : TypeId} (hb : ∃ cs, W.heap[b]? = some (.cells cs t (0, 0))) (ht : t ≠ e) : v.ownBlock ≠ some b := by
  obtain ⟨cs, hb⟩ := hb
  rcases h.2 with ⟨rfl, _⟩ | ⟨g, cap, cur, rfl, _, hg, _⟩
  · simp [Value.ownBlock]
  · intro e'
    simp only [Value.ownBlock, Option.some.injEq] at e'
    subst e'
    rw [hg] at hb
    simp only [Option.some.injEq, Obj.cells.injEq] at hb
    exact ht hb.2.1.symm
theorem ZB.n5 {w W : World} {u0 u1 : Value} {b10 b12 B : Nat} {i g : Int} {c0 c1 v5 v8 : Value} {rows : List RowI} {gens : List Int} (h : ZB w u0 u1 b10 b12 B i g c0 c1 v5 v8 rows gens W) : v5.ownBlock ≠ some b12 := own_nety h.p5 h.ty (by decide)
theorem ZB.n8 {w W : World} {u0 u1 : Value} {b10 b12 B : Nat} {i g : Int} {c0 c1 v5 v8 : Value} {rows : List RowI} {gens : List Int} (h : ZB w u0 u1 b10 b12 B i g c0 c1 v5 v8 rows gens W) : v8.ownBlock ≠ some b12 := own_nety h.p8 h.ty (by decide)
section
variable {w W W1 : World} {u0 u1 : Value} {b10 b12 B : Nat} {i g : Int} {c0 c1 v5 v8 v5' v8' : Value} {rows rows' : List RowI} {gens gens' : List Int}
theorem ZB.below (h : ZB w u0 u1 b10 b12 B i g c0 c1 v5 v8 rows gens W) (hb : Below W.heap.size W W1) : ZB w u0 u1 b10 b12 B i g c0 c1 v5 v8 rows gens W1 :=
  ⟨h.sb.below hb, keep_below hb h.i0, keep_below hb h.i1, keep_below hb h.o0, keep_below hb h.o1, fun j => (hb.frozen (p := ⟨b12, j, none⟩) (show b12 < _ from block_lt h.o0)).trans (h.fz j), own_kept h.p5 hb, own_kept h.p8 hb, h.hB, h.h10, h.h12, h.ty.imp fun cs e => (hb.block b12 (block_lt h.o0)).trans e⟩
theorem ZB.grown (h : ZB w u0 u1 b10 b12 B i g c0 c1 v5 v8 rows gens W) {row : Option Nat} (hg : W.grownBy W1 row) (hr : ∀ k, row = some k → B ≤ k) (hr2 : row ≠ some b12)
    (q5 : W1.ownsRow B 53 11 v5' rows'.length (cellsOfRows rows')) (q8 : W1.ownsRow B 3 1 v8' gens'.length (cellsOfInts gens')) : ZB w u0 u1 b10 b12 B i g c0 c1 v5' v8' rows' gens' W1 := by
  have hb : B ≤ W.heap.size := Nat.le_trans h.h12 (Nat.le_of_lt (block_lt h.o0))
  have n10 : (some b10 : Option Nat) ≠ row := fun e => by have := hr b10 e.symm; have := h.h10; omega
  have n12 : (some b12 : Option Nat) ≠ row := fun e => hr2 e.symm
  exact ⟨h.sb.keep ((grown_below hg hr hb).mono h.hB), hg.cell h.i0 n10, hg.cell h.i1 n10, hg.cell h.o0 n12, hg.cell h.o1 n12, fun j => (hg.frozen_far ⟨b12, j, none⟩ (show b12 < _ from block_lt h.o0) n12).trans (h.fz j), q5, q8, h.hB, h.h10, h.h12, h.ty.imp fun cs e => (hg.block b12 (block_lt h.o0) n12).trans e⟩
theorem ZB.row8 (h : ZB w u0 u1 b10 b12 B i g c0 c1 v5 v8 rows gens W) : ∀ k, v8.ownBlock = some k → B ≤ k := fun k e => (h.p8.lt k e).1
theorem ZB.row5 (h : ZB w u0 u1 b10 b12 B i g c0 c1 v5 v8 rows gens W) : ∀ k, v5.ownBlock = some k → B ≤ k := fun k e => (h.p5.lt k e).1
theorem ZB.give8 (h : ZB w u0 u1 b10 b12 B i g c0 c1 v5 v8 rows gens W) (hg : W.grownBy W1 v8.ownBlock) (q8 : W1.ownsRow B 3 1 v8' gens'.length (cellsOfInts gens')) : ZB w u0 u1 b10 b12 B i g c0 c1 v5 v8' rows gens' W1 :=
  h.grown hg h.row8 h.n8 (h.p5.kept hg (own_apart h.p5 h.p8 (by decide))) q8
theorem ZB.give5 (h : ZB w u0 u1 b10 b12 B i g c0 c1 v5 v8 rows gens W) (hg : W.grownBy W1 v5.ownBlock) (q5 : W1.ownsRow B 53 11 v5' rows'.length (cellsOfRows rows')) : ZB w u0 u1 b10 b12 B i g c0 c1 v5' v8 rows' gens W1 :=
  h.grown hg h.row5 h.n5 q5 (h.p8.kept hg (own_apart h.p8 h.p5 (by decide)))
theorem ZB.there12 (h : ZB w u0 u1 b10 b12 B i g c0 c1 v5 v8 rows gens W) (k : Nat) (hk : k < 2) : W.there b12 k 1 := by
  rcases (by omega : k = 0 ∨ k = 1) with rfl | rfl
  · exact there_of h.o0 h.fz
  · exact there_of h.o1 h.fz
theorem ZB.set12 (h : ZB w u0 u1 b10 b12 B i g c0 c1 v5 v8 rows gens W) (k : Nat) (hk : k < 2) (v : Value) : ZB w u0 u1 b10 b12 B i g (if k = 0 then v else c0) (if k = 1 then v else c1) v5 v8 rows gens (W.setCell ⟨b12, k, none⟩ v) := by
  have hg := grown_setc W b12 k v
  have hb : Below B W (W.setCell ⟨b12, k, none⟩ v) := (Below.refl _ _).setCell (p := ⟨b12, k, none⟩) h.h12 v
  have n10 : (some b10 : Option Nat) ≠ some b12 := fun e => by have := Option.some.inj e; have := h.h10; have := h.h12; omega
  refine ⟨h.sb.keep (hb.mono h.hB), hg.cell h.i0 n10, hg.cell h.i1 n10, ?_, ?_, fun j => by rw [World.frozen?_setCell]; exact h.fz j, h.p5.kept hg (.inr h.n5), h.p8.kept hg (.inr h.n8), h.hB, h.h10, h.h12, h.ty.elim fun cs e => ⟨_, heap_setCell_same W b12 k cs 40 v e⟩⟩
  · rcases (by omega : k = 0 ∨ k = 1) with rfl | rfl
    · exact setc_same h.o0
    · exact setc_other (addr_ne (by decide)) h.o0
  · rcases (by omega : k = 0 ∨ k = 1) with rfl | rfl
    · exact setc_other (addr_ne (by decide)) h.o1
    · exact setc_same h.o1
theorem ZB.set1 (h : ZB w u0 u1 b10 b12 B i g c0 c1 v5 v8 rows gens W) (v : Value) : ZB w u0 u1 b10 b12 B i g c0 v v5 v8 rows gens (W.setCell ⟨b12, 1, none⟩ v) := by
  have := ZB.set12 h 1 (by decide) v
  simpa using this
theorem ZB.set0 (h : ZB w u0 u1 b10 b12 B i g c0 c1 v5 v8 rows gens W) (v : Value) : ZB w u0 u1 b10 b12 B i g v c1 v5 v8 rows gens (W.setCell ⟨b12, 0, none⟩ v) := by
  have := ZB.set12 h 0 (by decide) v
  simpa using this
theorem cellsOfInts_set (l : List Int) (k : Nat) (x : Int) : (cellsOfInts l).set k (.int .i64 x) = cellsOfInts (l.set k x) := by
  unfold cellsOfInts
  rw [List.map_set]
theorem ZB.setG {g8 c8 ln : Nat} (h : ZB w u0 u1 b10 b12 B i g c0 c1 v5 (.slice (some ⟨g8, 0, none⟩) ln c8) rows gens W) (hln : ln = gens.length) (k : Nat) (hk : k < gens.length) (x : Int) :
    ZB w u0 u1 b10 b12 B i g c0 c1 v5 (.slice (some ⟨g8, 0, none⟩) ln c8) rows (gens.set k x) (W.setCell ⟨g8, k, none⟩ (.int .i64 x)) := by
  subst hln
  have q := own_set h.p8 (j := k) (by rw [cellsOfInts_len]; omega) (.int .i64 x)
  rw [cellsOfInts_set] at q
  exact h.give8 (grown_setc W g8 k (.int .i64 x)) (by rw [List.length_set]; exact q)
theorem ZB.thereG {g8 c8 ln : Nat} (h : ZB w u0 u1 b10 b12 B i g c0 c1 v5 (.slice (some ⟨g8, 0, none⟩) ln c8) rows gens W) (hln : ln = gens.length) (k : Nat) (hk : k < gens.length) : W.there g8 k 1 := by
  subst hln
  exact own_there h.p8 k 1 (by rw [cellsOfInts_len]; omega)
theorem ZB.start {u0 u1 : Value} (h : SB w u0 u1 (.slice none 0 0) (.slice none 0 0) (.int .i64 0) (.int .i64 0) W) (h0 : W.cell? ⟨b10, 0, none⟩ = some (.int .i64 i)) (h1 : W.cell? ⟨b10, 1, none⟩ = some (.int .i64 g)) (q5 : W.ownsRow B 53 11 v5 rows.length (cellsOfRows rows)) (q8 : W.ownsRow B 3 1 v8 gens.length (cellsOfInts gens))
    (hB : w.heap.size + 3 ≤ B) (h10 : b10 < B) (h12 : B ≤ W.heap.size) : ZB w u0 u1 b10 W.heap.size B i g v5 v8 v5 v8 rows gens (W.alloc (.cells #[v5, v8] 40)) := by
  have hb : Below W.heap.size W (W.alloc (.cells #[v5, v8] 40)) := (Below.refl _ _).alloc (Nat.le_refl _) _
  obtain ⟨a0, a1, af, ab⟩ := new_box (W := W) (u0 := v5) (u1 := v8) (t := 40) rfl
  exact ⟨h.below hb, keep_below hb h0, keep_below hb h1, a0, a1, af, own_kept q5 hb, own_kept q8 hb, hB, h10, h12, ⟨#[v5, v8], (by show (W.heap.push _)[W.heap.size]? = _; simp)⟩⟩
end
theorem VB1.below {w w1 : World} {vb : Nat} {r : RowI} (h : VB1 w vb r) (hb : Below w.heap.size w w1) : VB1 w1 vb r := ⟨(hb.block vb (Array.getElem?_eq_some_iff.1 h.h).1).trans h.h⟩
theorem vb1_new (W : World) (r : RowI) : VB1 (W.alloc (.cells (rowCells r).toArray 53)) W.heap.size r := ⟨by show (W.heap.push _)[W.heap.size]? = _; simp⟩
theorem own_rows {W : World} {base : Nat} {A : Option Addr} {c : Nat} {rows : List RowI} (h : W.ownsRow base 53 11 (.slice A rows.length c) rows.length (cellsOfRows rows)) : RowsL W A rows := by
  obtain ⟨A', c', e, hr⟩ := rowsL_own h
  simp only [Value.slice.injEq, true_and] at e
  rw [e.1]; exact hr
theorem own_ints {W : World} {base : Nat} {A : Option Addr} {c : Nat} {l : List Int} (h : W.ownsRow base 3 1 (.slice A l.length c) l.length (cellsOfInts l)) : IntsL W A l := by
  obtain ⟨A', c', e, hr⟩ := intsL_own h
  simp only [Value.slice.injEq, true_and] at e
  rw [e.1]; exact hr
theorem nxTo_ok (X : Wd) : ∀ m j, m + j = X.gens.length → (nxTo X m j).2 = 0 → ∃ k : Nat, (nxTo X m j).1.1 = (k : Int) ∧ k ≤ X.gens.length
  | 0, j, h, h0 => by
    unfold nxTo at h0 ⊢
    split at h0
    · simp at h0
    · rename_i hc; rw [if_neg hc]; exact ⟨X.gens.length, rfl, Nat.le_refl _⟩
  | m + 1, j, h, h0 => by
    unfold nxTo at h0 ⊢
    split at h0
    · rename_i hc
      rw [if_pos hc]
      exact ⟨j, rfl, by omega⟩
    · rename_i hc
      rw [if_neg hc]
      exact nxTo_ok X m (j + 1) (by omega) h0
theorem next_ok (X : Wd) (h : (nextF X).2 = 0) : ∃ k : Nat, (nextF X).1.1 = (k : Int) ∧ k ≤ X.gens.length := nxTo_ok X _ 0 (by omega) h
theorem own_le {w : World} {base base' size n : Nat} {e : TypeId} {v : Value} {xs : List Value} (h : w.ownsRow base e size v n xs) (hb : base' ≤ base) : w.ownsRow base' e size v n xs := by
  refine ⟨h.1, ?_⟩
  rcases h.2 with h2 | ⟨g, cap, cur, h3, h4, h5⟩
  · exact .inl h2
  · exact .inr ⟨g, cap, cur, h3, Nat.le_trans hb h4, h5⟩
theorem own_base (A : Option Addr) (cap : Nat) (rows : List RowI) (G : Option Addr) (gcap : Nat) (gens : List Int) (w : World) (hn : rows.length * 88 ≤ 140737488355328) (hgn : gens.length * 8 ≤ 140737488355328) (hR : RowsL w A rows) (hG : IntsL w G gens) :
    Calls Try.prog 84 #[worldV A rows.length cap G gens.length gcap] w fun e w' => ∃ A5 c5 A8 c8, e = .returned (.agg #[.slice A5 rows.length c5, .slice A8 gens.length c8]) ∧ w'.ownsRow w.heap.size 53 11 (.slice A5 rows.length c5) rows.length (cellsOfRows rows) ∧ w'.ownsRow w.heap.size 3 1 (.slice A8 gens.length c8) gens.length (cellsOfInts gens) ∧ Below w.heap.size w w' :=
  (own_sl A cap rows G gcap gens w hn hgn hR hG).mono fun e w' ⟨A5, c5, A8, c8, he, h5, h8, hb⟩ => ⟨A5, c5, A8, c8, he, own_le h5 (by omega), own_le h8 (by omega), hb⟩
theorem own_base2 (A : Option Addr) (cap : Nat) (rows : List RowI) (G : Option Addr) (gcap : Nat) (gens : List Int) (w : World) (hn : rows.length * 88 ≤ 140737488355328) (hgn : gens.length * 8 ≤ 140737488355328) (hg : 0 < gens.length) (hR : RowsL w A rows) (hG : IntsL w G gens) :
    Calls Try.prog 84 #[worldV A rows.length cap G gens.length gcap] w fun e w' => ∃ A5 c5 g8 c8, e = .returned (.agg #[.slice A5 rows.length c5, .slice (some ⟨g8, 0, none⟩) gens.length c8]) ∧ w'.ownsRow w.heap.size 53 11 (.slice A5 rows.length c5) rows.length (cellsOfRows rows) ∧ w'.ownsRow w.heap.size 3 1 (.slice (some ⟨g8, 0, none⟩) gens.length c8) gens.length (cellsOfInts gens) ∧ Below w.heap.size w w' :=
  (own_base A cap rows G gcap gens w hn hgn hR hG).mono fun e w' ⟨A5, c5, A8, c8, he, h5, h8, hb⟩ => by
    obtain ⟨g, c, hv, _⟩ := own_pos h8 hg
    simp only [Value.slice.injEq, true_and] at hv
    obtain ⟨rfl, rfl⟩ := hv
    exact ⟨A5, c5, g, c8, he, h5, h8, hb⟩
theorem ZB.app8 {w W W1 : World} {u0 u1 : Value} {b10 b12 B : Nat} {i g : Int} {c0 c1 v5 v8 : Value} {rows : List RowI} {gens : List Int} {g8 c8 : Nat} (h : ZB w u0 u1 b10 b12 B i g c0 c1 v5 v8 rows gens W)
    (q8 : W1.ownsRow B 3 1 (.slice (some ⟨g8, 0, none⟩) (gens.length + 1) c8) (gens.length + 1) (cellsOfInts gens ++ [.int .i64 0])) (hg : W.grownBy W1 v8.ownBlock) :
    ZB w u0 u1 b10 b12 B i g c0 c1 v5 (.slice (some ⟨g8, 0, none⟩) (gens ++ [0]).length c8) rows (gens ++ [0]) W1 := by
  refine h.give8 hg ?_
  rw [show (gens ++ [(0 : Int)]).length = gens.length + 1 by simp, show cellsOfInts (gens ++ [0]) = cellsOfInts gens ++ [.int .i64 0] by simp [cellsOfInts]]
  exact q8
theorem ZB.base {w W : World} {u0 u1 : Value} {b10 b12 B : Nat} {i g : Int} {c0 c1 v5 v8 : Value} {rows : List RowI} {gens : List Int} (h : ZB w u0 u1 b10 b12 B i g c0 c1 v5 v8 rows gens W) : B ≤ W.heap.size := Nat.le_trans h.h12 (Nat.le_of_lt (block_lt h.o0))
structure FE (w : World) (b10 b12 B : Nat) (i g : Int) (v5 v8 : Value) (rows : List RowI) (gens : List Int) (W : World) : Prop where
  i0 : W.cell? ⟨b10, 0, none⟩ = some (.int .i64 i)
  i1 : W.cell? ⟨b10, 1, none⟩ = some (.int .i64 g)
  o0 : W.cell? ⟨b12, 0, none⟩ = some v5
  o1 : W.cell? ⟨b12, 1, none⟩ = some v8
  p5 : W.ownsRow B 53 11 v5 rows.length (cellsOfRows rows)
  p8 : W.ownsRow B 3 1 v8 gens.length (cellsOfInts gens)
  hB : w.heap.size + 3 ≤ B
  h10 : w.heap.size + 3 ≤ b10
  h12 : B ≤ b12
section
variable {w W W1 : World} {b10 b12 B : Nat} {i g : Int} {v5 v8 : Value} {rows : List RowI} {gens : List Int}
theorem FE.below (h : FE w b10 b12 B i g v5 v8 rows gens W) (hb : Below W.heap.size W W1) : FE w b10 b12 B i g v5 v8 rows gens W1 :=
  ⟨keep_below hb h.i0, keep_below hb h.i1, keep_below hb h.o0, keep_below hb h.o1, own_kept h.p5 hb, own_kept h.p8 hb, h.hB, h.h10, h.h12⟩
theorem FE.sets (h : FE w b10 b12 B i g v5 v8 rows gens W) {b o : Nat} {vs : List Value} (hb : b < w.heap.size + 3) : FE w b10 b12 B i g v5 v8 rows gens (W.setCells b o vs) := by
  have := h.hB
  have := h.h10
  have := h.h12
  exact ⟨(setcs_other (by simp; omega)).trans h.i0, (setcs_other (by simp; omega)).trans h.i1, (setcs_other (by simp; omega)).trans h.o0, (setcs_other (by simp; omega)).trans h.o1, own_setsBelow (by omega) vs o W h.p5, own_setsBelow (by omega) vs o W h.p8, h.hB, h.h10, h.h12⟩
theorem ZB.fin {u0 u1 c0 c1 : Value} (h : ZB w u0 u1 b10 b12 B i g v5 v8 v5 v8 rows gens W) (h10 : w.heap.size + 3 ≤ b10) : FE w b10 b12 B i g v5 v8 rows gens W := ⟨h.i0, h.i1, h.o0, h.o1, h.p5, h.p8, h.hB, h10, h.h12⟩
end
theorem FE.wld {w W : World} {b10 b12 B g5 c5 g8 c8 n m : Nat} {i g : Int} {rows : List RowI} {gens : List Int} (h : FE w b10 b12 B i g (.slice (some ⟨g5, 0, none⟩) n c5) (.slice (some ⟨g8, 0, none⟩) m c8) rows gens W) (hn : n = rows.length) (hm : m = gens.length) : WldNew w.heap.size W (some ⟨g5, 0, none⟩) c5 (some ⟨g8, 0, none⟩) c8 ⟨rows, gens⟩ := by
  subst hn hm
  have := h.hB
  exact ⟨⟨own_rows h.p5, own_ints h.p8⟩, own_fresh h.p5 (by omega), own_fresh h.p8 (by omega)⟩
theorem place_le (rows : List RowI) (i : Int) : placeN rows i ≤ rows.length := by
  unfold placeN
  rcases gtIx_spec (fun j => rows.getD j dR) i rows.length 0 with h | ⟨k, _, hk, h, _⟩
  · rw [h]; simp
  · rw [h, if_neg (by omega)]; simp; omega
end Go.Proofs.Ytnbleebilmghcab
namespace Go.Proofs.Ytnbleebilmghcab
open Go Go.RowKit
attribute [local go_sem ↓] Go.wp_at_zero Go.wp_at_succ
set_option maxRecDepth 8000 in
set_option maxHeartbeats 8000000 in
theorem spawn_any (A : Option Addr) (cap : Nat) (G : Option Addr) (gcap : Nat) (X : Wd) (has n : Int) (w : World) (hn0 : X.rows.length ≤ 9223372036854775807) (hX : WldAt w A cap G gcap X) :
    Calls Try.prog 63 #[wldV A cap G gcap X, .int .i64 has, .int .i64 n] w fun e w' => ∃ A' c' G' gc', e = .returned (.tuple #[wldV A' c' G' gc' (spawnF X has n).2.2, beingV (spawnF X has n).2.1.1 (spawnF X has n).2.1.2, .int .i64 (spawnF X has n).1]) ∧ WldNew w.heap.size w' A' c' G' gc' (spawnF X has n).2.2 ∧ Below w.heap.size w w' := by
  have hSB := SB.start w (.slice A X.rows.length cap) (.slice G X.gens.length gcap)
  have hP := fun W (hb : Below w.heap.size w W) => pwrong_any A X.rows.length cap G X.gens.length gcap (fun j => X.rows.getD j dR) (fun j => X.gens.getD j 0) W (by omega) (hX.rows.below hb) (hX.gens.below hb)
  have eW : plainF (fun j => X.rows.getD j dR) X.rows.length X.gens.length (fun j => X.gens.getD j 0) = wrongW X := rfl
  rw [eW] at hP
  unfold faultP worldV at hP
  have HP := hide hP
  have HX := hide hX
  have HSB := hide hSB
  clear hP hSB eW hX
  unfold spawnF
  unfold wldV worldV beingV
  by_cases hw0 : (wrongW X).1 = 0
  · rw [if_neg (by simpa using hw0)]
    obtain ⟨hr1, hr2, hr3⟩ := right_hr hw0
    obtain ⟨hn, hgn⟩ := right_fit hw0
    rw [hw0] at HP
    generalize (wrongW X).2 = wa at *
    cases hs : setB has
    · simp only [Bool.false_and, if_true]
      unfold emptyW
      go_enter Try.func63, Try.ntmps63
      go_wp2_with (first
        | (go_at_call 42; refine (unhide HP _ (unhide HSB).bel).mono ?_; rintro e w5 ⟨rfl, hb5⟩; have hS5 := (unhide HSB).below hb5; have hS6 := hS5.below ((Below.refl _ _).alloc (Nat.le_refl _) (.cells #[.int .i64 0, .int .i64 wa] 30)); have r0 := hS6.r0; have r1 := hS6.r1; have HS6 := hide hS6; clear hb5 hS5 hS6)
        | (go_at_call 33; refine (set_any _ _).mono ?_; rintro e w1 ⟨rfl, hw⟩; obtain rfl := hw.symm)
        | (go_at_call 81; refine (value_any _ _).mono ?_; rintro e w1 ⟨rfl, hw⟩; obtain rfl := hw.symm)
        | (refine wpList_putN rfl 40 (.tmp 6) (.tmp 30) rfl (w.heap.size + 1) 0 [.slice none 0 0, .slice none 0 0] rfl rfl (by simp [Value.oneCell']) size38 (unhide HS6).thereA ?_; intro W3 hW3; have hS7 := (unhide HS6).giveA (.slice none 0 0) (.slice none 0 0); rw [← hW3] at hS7; have HS7 := hide hS7; clear hW3 hS7)
        | (refine wpList_putN rfl 50 (.tmp 7) (.tmp 31) rfl (w.heap.size + 2) 0 [.int .i64 0, .int .i64 0] rfl rfl (by simp [Value.oneCell']) size40 (unhide HS7).thereB ?_; intro W4 hW4; have hS8 := (unhide HS7).giveB (.int .i64 0) (.int .i64 0); rw [← hW4] at hS8; have HS8 := hide hS8; clear hW4 hS8))
      have t0 := (unhide HS8).t0
      have t1 := (unhide HS8).t1
      have s0 := (unhide HS8).s0
      have s1 := (unhide HS8).s1
      refine bodyPost_ret (v := .tuple #[.agg #[.slice none 0 0, .slice none 0 0], .agg #[.int .i64 0, .int .i64 0], .int .i64 3]) (by simp [results, Try.results63, go_sem, t0, t1, s0, s1]) rfl ⟨none, 0, none, 0, rfl, wldNew_empty _ _, (unhide HS8).bel⟩
    · cases hv : valB n
      · simp only [Bool.true_and, if_true]
        unfold emptyW
        go_enter Try.func63, Try.ntmps63
        go_wp2_with (first
          | (go_at_call 42; refine (unhide HP _ (unhide HSB).bel).mono ?_; rintro e w5 ⟨rfl, hb5⟩; have hS5 := (unhide HSB).below hb5; have hS6 := hS5.below ((Below.refl _ _).alloc (Nat.le_refl _) (.cells #[.int .i64 0, .int .i64 wa] 30)); have r0 := hS6.r0; have r1 := hS6.r1; have HS6 := hide hS6; clear hb5 hS5 hS6)
          | (go_at_call 33; refine (set_any _ _).mono ?_; rintro e w1 ⟨rfl, hw⟩; obtain rfl := hw.symm)
          | (go_at_call 81; refine (value_any _ _).mono ?_; rintro e w1 ⟨rfl, hw⟩; obtain rfl := hw.symm)
          | (refine wpList_putN rfl 40 (.tmp 6) (.tmp 30) rfl (w.heap.size + 1) 0 [.slice none 0 0, .slice none 0 0] rfl rfl (by simp [Value.oneCell']) size38 (unhide HS6).thereA ?_; intro W3 hW3; have hS7 := (unhide HS6).giveA (.slice none 0 0) (.slice none 0 0); rw [← hW3] at hS7; have HS7 := hide hS7; clear hW3 hS7)
          | (refine wpList_putN rfl 50 (.tmp 7) (.tmp 31) rfl (w.heap.size + 2) 0 [.int .i64 0, .int .i64 0] rfl rfl (by simp [Value.oneCell']) size40 (unhide HS7).thereB ?_; intro W4 hW4; have hS8 := (unhide HS7).giveB (.int .i64 0) (.int .i64 0); rw [← hW4] at hS8; have HS8 := hide hS8; clear hW4 hS8))
        have t0 := (unhide HS8).t0
        have t1 := (unhide HS8).t1
        have s0 := (unhide HS8).s0
        have s1 := (unhide HS8).s1
        refine bodyPost_ret (v := .tuple #[.agg #[.slice none 0 0, .slice none 0 0], .agg #[.int .i64 0, .int .i64 0], .int .i64 3]) (by simp [results, Try.results63, go_sem, t0, t1, s0, s1]) rfl ⟨none, 0, none, 0, rfl, wldNew_empty _ _, (unhide HS8).bel⟩
      · simp only [Bool.and_self, Bool.true_eq_false, if_false]
        have hNX := fun W (hb : Below w.heap.size w W) => next_any A cap G gcap X W (by omega) (by omega) (fun j hj => by have := hr3 j hj; omega) ((unhide HX).below hb)
        unfold wldV worldV beingV at hNX
        have HNX := hide hNX
        clear hNX
        by_cases hne : (nextF X).2 = 0
        · rw [if_neg (by simpa using hne)]
          obtain ⟨k, hk1, hk2⟩ := next_ok X hne
          rw [hne, hk1] at HNX
          rw [hk1]
          generalize (nextF X).1.2 = ng at *
          clear hk1 hne
          have hs0 : 0 ≤ has ∧ has ≤ 255 := by unfold setB at hs; simpa using hs
          obtain ⟨hs0, hs1⟩ := hs0
          obtain ⟨r, hrw⟩ : ∃ r, newR (k : Int) ng has n = r := ⟨_, rfl⟩
          rw [hrw]
          by_cases hkl : k = X.gens.length
          · subst hkl
            have hkz : (X.gens.length : Int) < ((X.gens.length + 1 : Nat) : Int) := by omega
            have hkb : X.gens.length < (X.gens ++ [(0 : Int)]).length := by simp
            have hlb : X.gens.length + 1 = (X.gens ++ [(0 : Int)]).length := by simp
            have HKB := hide hkb
            have HLB := hide hlb
            have hgs : X.gens ++ [ng] = (X.gens ++ [(0 : Int)]).set X.gens.length ng := by simp
            obtain ⟨i3, hi3, hz3, hs3, hb3⟩ := info_parts info3
            have HI3 := hide hi3
            have HZZ3 := hide hz3
            have HSS3 := hide hs3
            have HBB3 := hide hb3
            clear hi3 hz3 hs3 hb3
            unfold gensF
            rw [if_pos rfl, hgs]
            clear hgs hkb hlb
            have hOW := fun W (hb : Below w.heap.size w W) => own_base A cap X.rows G gcap X.gens W hn hgn ((unhide HX).below hb).rows ((unhide HX).below hb).gens
            unfold worldV at hOW
            have HOW := hide hOW
            clear hOW
            go_enter Try.func63, Try.ntmps63
            go_wp2_with (first
            | (go_at_call 42; refine (unhide HP _ (unhide HSB).bel).mono ?_; rintro e w5 ⟨rfl, hb5⟩; have hS5 := (unhide HSB).below hb5; have hS6 := hS5.below ((Below.refl _ _).alloc (Nat.le_refl _) (.cells #[.int .i64 0, .int .i64 wa] 30)); have r0 := hS6.r0; have r1 := hS6.r1; have HS6 := hide hS6; clear hb5 hS5 hS6)
            | (go_at_call 33; refine (set_any _ _).mono ?_; rintro e w1 ⟨rfl, hw⟩; obtain rfl := hw.symm)
            | (go_at_call 81; refine (value_any _ _).mono ?_; rintro e w1 ⟨rfl, hw⟩; obtain rfl := hw.symm)
            | (go_at_call 83; refine (unhide HNX _ (unhide HS6).bel).mono ?_; rintro e w6 ⟨rfl, hb6⟩; have hS8 := (unhide HS6).below hb6; have HZ6 := hide hS8.sz; have hS9 := hS8.below ((Below.refl _ _).alloc (Nat.le_refl _) (.cells #[.int .i64 (X.gens.length : Int), .int .i64 ng] 50)); have r0' := hS9.r0; have r1' := hS9.r1; have HS9 := hide hS9; have HQ0 : Hid ((w6.alloc (.cells #[.int .i64 (X.gens.length : Int), .int .i64 ng] 50)).cell? ⟨w6.heap.size, 0, none⟩ = some (.int .i64 (X.gens.length : Int))) := hide (by simp); have HQ1 : Hid ((w6.alloc (.cells #[.int .i64 (X.gens.length : Int), .int .i64 ng] 50)).cell? ⟨w6.heap.size, 1, none⟩ = some (.int .i64 ng)) := hide (by simp); clear hb6 hS8 hS9 r0 r1)
            | (go_at_call 84; refine (unhide HOW _ (unhide HS9).bel).mono ?_; rintro e w8 ⟨A5, c5, A8, c8, rfl, q5, q8, hb8⟩; have hZ5 := ZB.start ((unhide HS9).below hb8) (keep_below hb8 (unhide HQ0)) (keep_below hb8 (unhide HQ1)) q5 q8 (unhide HS9).sz (by simp) hb8.size; rw [show (w6.alloc (.cells #[.int .i64 (X.gens.length : Int), .int .i64 ng] 50)).heap.size = w6.heap.size + 1 from by simp] at hZ5; have i0 := hZ5.i0; have i1 := hZ5.i1; have o0 := hZ5.o0; have o1 := hZ5.o1; have hZ4 := hZ5.below ((Below.refl _ _).alloc (Nat.le_refl _) (.cells #[.int .i64 0] 3)); have hC := cell_new (w8.alloc (.cells #[.slice A5 X.rows.length c5, .slice A8 X.gens.length c8] 40)) (.int .i64 0) 3; rw [show (w8.alloc (.cells #[.slice A5 X.rows.length c5, .slice A8 X.gens.length c8] 40)).heap.size = w8.heap.size + 1 from by simp] at hC; have HC := hide hC; have HZ4 := hide hZ4; clear hb8 q5 q8 hZ5 hZ4 hC r0' r1')
            | (at_builtin; refine wpList_append1 _ rfl (.tmp 51) (.tmp 52) 38 rfl _ 3 i3 _ 1 8 Try.underlying38 (unhide HI3) (unhide HZZ3) (unhide HSS3) (unhide HBB3) rfl (by decide) (.slice A8 X.gens.length c8) X.gens.length (cellsOfInts X.gens) rfl (unhide HZ4).p8 ⟨w8.heap.size + 1, 0, none⟩ 1 1 [.int .i64 0] rfl rfl (unhide HC) (by simp [Value.oneCell']) (by unfold maxLen; omega) (by omega) (unhide HZ4).base (by omega) ?_; intro g8 c9 w9 q9 hg9 hw9; have hZ7 := (unhide HZ4).app8 q9 hg9; rw [← unhide HLB] at hZ7; have HZ7 := hide hZ7; clear i0 i1 o0 o1 q9 hg9 hw9 hZ7)
            | (refine wpList_put1 rfl 38 (.tmp 54) (.tmp 53) rfl w8.heap.size 1 (.slice (some ⟨g8, 0, none⟩) (X.gens.length + 1) c9) rfl rfl rfl size26 ((unhide HZ7).there12 1 (by decide)) ?_; intro W8 hW8; have hZ5 := (unhide HZ7).set1 (.slice (some ⟨g8, 0, none⟩) (X.gens.length + 1) c9); rw [← hW8] at hZ5; have i0 := hZ5.i0; have i1 := hZ5.i1; have o0 := hZ5.o0; have o1 := hZ5.o1; have HZ5 := hide hZ5; clear hW8 hZ5; go_frame)
            | (refine wpList_put1 rfl 3 (.tmp 61) (.tmp 60) rfl g8 X.gens.length (.int .i64 ng) rfl rfl rfl size3 ((unhide HZ5).thereG (unhide HLB) X.gens.length (unhide HKB)) ?_; intro W5 hW5; have hZ9 := (unhide HZ5).setG (unhide HLB) X.gens.length (unhide HKB) ng; rw [← hW5] at hZ9; have HZ9 := hide hZ9; clear hW5 hZ9))
            go_frame
            refine wp_region_mix 1 [0, 1, 2, 3, 4, 5, 6, 7, 8, 9, 10, 11, 12] [13] [0, 1, 2, 3, 4, 5, 6, 7, 8, 9, 10, 13] [11, 12, 14] (fun W => ZB w (.slice A X.rows.length cap) (.slice G X.gens.length gcap) w6.heap.size w8.heap.size (w6.heap.size + 1) (X.gens.length : Int) ng (.slice A5 X.rows.length c5) (.slice (some ⟨g8, 0, none⟩) (X.gens.length + 1) c9) (.slice A5 X.rows.length c5) (.slice (some ⟨g8, 0, none⟩) (X.gens.length + 1) c9) X.rows ((X.gens ++ [(0 : Int)]).set X.gens.length ng) W)
              (by kernel_rfl) (by kernel_rfl) (by kernel_rfl) (by kernel_rfl) (by kernel_rfl) (by kernel_rfl) (by kernel_rfl) (fun w1 x h => h.below x.bel) (unhide HZ9) ?_
            apply Exists.intro
            refine ⟨?hq, ?hp, ?hl⟩
            case hq =>
              intro l w1 hl hI
              simp only [pickL, List.getElem?_cons_zero, List.getElem?_cons_succ, Option.toList_some, List.cons_append, List.nil_append] at hl
              subst hl
              have hne : Nonempty (Sub w1) := ⟨⟨w1, Below.refl _ _⟩⟩
              have q0 := sub_cell hI.o0
              have q1 := sub_cell hI.i0
              have q2 := sub_cell hI.i1
              have hPL := fun x : Sub w1 => place_any A5 c5 X.rows (X.gens.length : Int) x.val (by omega) (own_rows (hI.below x.bel).p5)
              have hNR := fun x : Sub w1 => newRow_any (X.gens.length : Int) ng has n x.val hs0 hs1
              rw [hrw] at hNR
              unfold beingV rowV at hNR
              have HPL := hide hPL
              have HNR := hide hNR
              clear hI hPL hNR
              repeat (go_big_quiet_step ((first | (go_at_call 86; exact sub_bel (unhide HPL _)) | (go_at_call 87; exact sub_bel (unhide HNR _)))))
              exact wpQuiet_nil rfl
            case hp =>
              intro l w1 hl
              simp only [pickL, List.getElem?_cons_zero, List.getElem?_cons_succ, Option.toList_some, List.cons_append, List.nil_append] at hl
              subst hl
              have hne : Nonempty (Sub w1) := ⟨⟨w1, Below.refl _ _⟩⟩
              repeat (go_big_quiet_step (fail))
              exact wpQuiet_nil rfl
            case hl =>
              intro l hl x
              simp only [pickL, List.getElem?_cons_zero, List.getElem?_cons_succ, Option.toList_some, List.cons_append, List.nil_append] at hl
              subst hl
              have hZ := (unhide HZ9).below x.bel
              have HZ := hide hZ
              clear hZ
              unfold wpLoud
              go_wp2
              refine lpost_intro fun x2 => ⟨fun _ => ?_, ?_⟩
              · exact ((unhide HZ).below ((Below.refl _ _).alloc (Nat.le_refl _) _)).below x2.bel
              · have hZ2 := ((unhide HZ).below ((Below.refl _ _).alloc (Nat.le_refl _) _)).below x2.bel
                have hv2 := (vb1_new x.val r).below x2.bel
                have hin := insert_any _ A5 c5 (placeN X.rows (X.gens.length : Int)) X.rows r x.val.heap.size x2.val (by omega) (place_le _ _) hZ2.base (fun c o e => by have := ((unhide HZ).p5.lt c (by rw [e]; rfl)).2; omega) hZ2.p5 hv2
                have HIN := hide hin
                have HZ2 := hide hZ2
                clear hin hZ2 hv2
                unfold wpLoud
                go_wp2_with (go_at_call 85; refine (unhide HIN).mono ?_; rintro e w3 ⟨g5, c5', rfl, ho3, hg3⟩)
                refine lpost_intro fun x3 => ⟨fun h => absurd h (by decide), ?_⟩
                have hl5 : (insR X.rows (placeN X.rows (X.gens.length : Int)) r).length = X.rows.length + 1 := insR_len _ _ _ (place_le _ _)
                have hZ3 := ((unhide HZ2).give5 (v5' := .slice (some ⟨g5, 0, none⟩) (X.rows.length + 1) c5') (rows' := insR X.rows (placeN X.rows (X.gens.length : Int)) r) hg3 (by rw [hl5]; exact ho3)).below x3.bel
                have HZ3 := hide hZ3
                clear hZ3 ho3 hg3
                unfold wpLoud
                refine wpList_put1 rfl 37 (.tmp 75) (.tmp 74) rfl w8.heap.size 0 (.slice (some ⟨g5, 0, none⟩) (X.rows.length + 1) c5') rfl rfl rfl size36 ((unhide HZ3).there12 0 (by decide)) ?_
                intro W9 hW9
                unfold wpList
                refine lpost_intro fun x4 => ⟨fun h => absurd h (by decide), ?_⟩
                have hZ4 := ((unhide HZ3).set0 (.slice (some ⟨g5, 0, none⟩) (X.rows.length + 1) c5'))
                rw [← hW9] at hZ4
                have HZ4 := hide (hZ4.below x4.bel)
                clear hZ4 hW9
                unfold wpLoud
                go_wp2
                go_frame
                refine wp_region_puts [0, 1, 4] [2, 3] (fun L W => ∃ y0 y1 z0 z1, SB w (.slice A X.rows.length cap) (.slice G X.gens.length gcap) y0 y1 z0 z1 W ∧ (L 2 = true → y0 = .slice (some ⟨g5, 0, none⟩) (X.rows.length + 1) c5' ∧ y1 = .slice (some ⟨g8, 0, none⟩) (X.gens.length + 1) c9) ∧ (L 3 = true → z0 = .int .i64 (X.gens.length : Int) ∧ z1 = .int .i64 ng) ∧ FE w w6.heap.size w8.heap.size (w6.heap.size + 1) (X.gens.length : Int) ng (.slice (some ⟨g5, 0, none⟩) (X.rows.length + 1) c5') (.slice (some ⟨g8, 0, none⟩) (X.gens.length + 1) c9) (insR X.rows (placeN X.rows (X.gens.length : Int)) r) ((X.gens ++ [(0 : Int)]).set X.gens.length ng) W)
                  (by kernel_rfl) (by kernel_rfl) (by kernel_rfl) (by kernel_rfl) (by kernel_rfl) (by kernel_rfl) (by kernel_rfl) ?_ ?_ ?_ ?_
                · rintro L w1 x ⟨y0, y1, z0, z1, h1, h2, h3, h4⟩
                  exact ⟨y0, y1, z0, z1, h1.below x.bel, h2, h3, h4.below x.bel⟩
                · rintro L L' w1 he ⟨y0, y1, z0, z1, h1, h2, h3, h4⟩
                  exact ⟨y0, y1, z0, z1, h1, by rw [he 2 (by simp)]; exact h2, by rw [he 3 (by simp)]; exact h3, h4⟩
                · exact ⟨_, _, _, _, (unhide HZ4).sb, fun h => (by cases h), fun h => (by cases h), (unhide HZ4).fin (c0 := .int .i64 0) (c1 := .int .i64 0) (unhide HZ6)⟩
                · apply Exists.intro
                  refine ⟨?hq, ?hl, ?hend⟩
                  case hq =>
                    rintro l L w1 hl ⟨y0, y1, z0, z1, h1, h2, h3, h4⟩
                    simp only [pickL, List.getElem?_cons_zero, List.getElem?_cons_succ, Option.toList_some, List.cons_append, List.nil_append] at hl
                    subst hl
                    have hne : Nonempty (Sub w1) := ⟨⟨w1, Below.refl _ _⟩⟩
                    have q0 := sub_cell h4.o0
                    have q1 := sub_cell h4.o1
                    have q2 := sub_cell h4.i0
                    have q3 := sub_cell h4.i1
                    clear h1 h2 h3 h4
                    repeat (go_big_quiet_step (fail))
                    exact wpQuiet_nil rfl
                  case hl =>
                    rintro i o hi ho L w1 ⟨y0, y1, z0, z1, h1, h2, h3, h4⟩ hL
                    simp only [List.mem_cons, List.not_mem_nil, or_false] at hi
                    rcases hi with rfl | rfl
                    · simp only [List.getElem?_cons_zero, List.getElem?_cons_succ, Option.some.injEq] at ho
                      subst ho
                      refine wpList_putN rfl 40 (.tmp 6) (.tmp 76) rfl (w.heap.size + 1) 0 [.slice (some ⟨g5, 0, none⟩) (X.rows.length + 1) c5', .slice (some ⟨g8, 0, none⟩) (X.gens.length + 1) c9] rfl rfl (by simp [Value.oneCell']) size38 h1.thereA ?_
                      intro W3 hW3
                      unfold wpList
                      exact ⟨rfl, rfl, _, _, z0, z1, by rw [hW3]; exact h1.giveA _ _, fun _ => ⟨rfl, rfl⟩, fun h => h3 h, by rw [hW3]; exact h4.sets (by omega)⟩
                    · simp only [List.getElem?_cons_zero, List.getElem?_cons_succ, Option.some.injEq] at ho
                      subst ho
                      refine wpList_putN rfl 50 (.tmp 7) (.tmp 77) rfl (w.heap.size + 2) 0 [.int .i64 (X.gens.length : Int), .int .i64 ng] rfl rfl (by simp [Value.oneCell']) size40 h1.thereB ?_
                      intro W3 hW3
                      unfold wpList
                      exact ⟨rfl, rfl, y0, y1, _, _, by rw [hW3]; exact h1.giveB _ _, fun h => h2 h, fun _ => ⟨rfl, rfl⟩, by rw [hW3]; exact h4.sets (by omega)⟩
                  case hend =>
                    rintro L w1 ⟨y0, y1, z0, z1, h1, h2, h3, h4⟩ hall
                    obtain ⟨rfl, rfl⟩ := h2 (hall 2 (by simp))
                    obtain ⟨rfl, rfl⟩ := h3 (hall 3 (by simp))
                    have HS8 := hide h1
                    have HE := hide h4
                    clear h1 h2 h3 h4 hall
                    go_wp2
                    have t0 := (unhide HS8).t0
                    have t1 := (unhide HS8).t1
                    have s0 := (unhide HS8).s0
                    have s1 := (unhide HS8).s1
                    have hle : (insR X.rows (placeN X.rows (X.gens.length : Int)) r).length = X.rows.length + 1 := insR_len _ _ _ (place_le _ _)
                    refine bodyPost_ret (v := .tuple #[.agg #[.slice (some ⟨g5, 0, none⟩) (X.rows.length + 1) c5', .slice (some ⟨g8, 0, none⟩) (X.gens.length + 1) c9], .agg #[.int .i64 (X.gens.length : Int), .int .i64 ng], .int .i64 0]) (by simp [results, Try.results63, go_sem, t0, t1, s0, s1]) rfl ⟨some ⟨g5, 0, none⟩, c5', some ⟨g8, 0, none⟩, c9, ?_, ?_, (unhide HS8).bel⟩
                    · simp [hle]
                    · exact (unhide HE).wld hle.symm (by simp)
          · have hkl' : ¬ ((k : Int) = (X.gens.length : Int)) := by omega
            have hk3 : k < X.gens.length := by omega
            have hkz : (k : Int) < (X.gens.length : Int) := by omega
            unfold gensF
            rw [if_neg hkl']
            have hOW := fun W (hb : Below w.heap.size w W) => own_base2 A cap X.rows G gcap X.gens W hn hgn (by omega) ((unhide HX).below hb).rows ((unhide HX).below hb).gens
            unfold worldV at hOW
            have HOW := hide hOW
            clear hOW
            go_enter Try.func63, Try.ntmps63
            go_wp2_with (first
            | (go_at_call 42; refine (unhide HP _ (unhide HSB).bel).mono ?_; rintro e w5 ⟨rfl, hb5⟩; have hS5 := (unhide HSB).below hb5; have hS6 := hS5.below ((Below.refl _ _).alloc (Nat.le_refl _) (.cells #[.int .i64 0, .int .i64 wa] 30)); have r0 := hS6.r0; have r1 := hS6.r1; have HS6 := hide hS6; clear hb5 hS5 hS6)
            | (go_at_call 33; refine (set_any _ _).mono ?_; rintro e w1 ⟨rfl, hw⟩; obtain rfl := hw.symm)
            | (go_at_call 81; refine (value_any _ _).mono ?_; rintro e w1 ⟨rfl, hw⟩; obtain rfl := hw.symm)
            | (go_at_call 83; refine (unhide HNX _ (unhide HS6).bel).mono ?_; rintro e w6 ⟨rfl, hb6⟩; have hS8 := (unhide HS6).below hb6; have HZ6 := hide hS8.sz; have hS9 := hS8.below ((Below.refl _ _).alloc (Nat.le_refl _) (.cells #[.int .i64 (k : Int), .int .i64 ng] 50)); have r0' := hS9.r0; have r1' := hS9.r1; have HS9 := hide hS9; have HQ0 : Hid ((w6.alloc (.cells #[.int .i64 (k : Int), .int .i64 ng] 50)).cell? ⟨w6.heap.size, 0, none⟩ = some (.int .i64 (k : Int))) := hide (by simp); have HQ1 : Hid ((w6.alloc (.cells #[.int .i64 (k : Int), .int .i64 ng] 50)).cell? ⟨w6.heap.size, 1, none⟩ = some (.int .i64 ng)) := hide (by simp); clear hb6 hS8 hS9 r0 r1)
            | (go_at_call 84; refine (unhide HOW _ (unhide HS9).bel).mono ?_; rintro e w8 ⟨A5, c5, g8, c8, rfl, q5, q8, hb8⟩; have hZ5 := ZB.start ((unhide HS9).below hb8) (keep_below hb8 (unhide HQ0)) (keep_below hb8 (unhide HQ1)) q5 q8 (unhide HS9).sz (by simp) hb8.size; rw [show (w6.alloc (.cells #[.int .i64 (k : Int), .int .i64 ng] 50)).heap.size = w6.heap.size + 1 from by simp] at hZ5; have i0 := hZ5.i0; have i1 := hZ5.i1; have o0 := hZ5.o0; have o1 := hZ5.o1; have HZ5 := hide hZ5; clear hb8 q5 q8 hZ5 r0' r1')
            | (refine wpList_put1 rfl 3 (.tmp 61) (.tmp 60) rfl g8 k (.int .i64 ng) rfl rfl rfl size3 ((unhide HZ5).thereG rfl k (by omega)) ?_; intro W5 hW5; have hZ9 := (unhide HZ5).setG rfl k (by omega) ng; rw [← hW5] at hZ9; have HZ9 := hide hZ9; clear hW5 hZ9))
            go_frame
            refine wp_region_mix 1 [0, 1, 2, 3, 4, 5, 6, 7, 8, 9, 10, 11, 12] [13] [0, 1, 2, 3, 4, 5, 6, 7, 8, 9, 10, 13] [11, 12, 14] (fun W => ZB w (.slice A X.rows.length cap) (.slice G X.gens.length gcap) w6.heap.size w8.heap.size (w6.heap.size + 1) (k : Int) ng (.slice A5 X.rows.length c5) (.slice (some ⟨g8, 0, none⟩) X.gens.length c8) (.slice A5 X.rows.length c5) (.slice (some ⟨g8, 0, none⟩) X.gens.length c8) X.rows (X.gens.set k ng) W)
              (by kernel_rfl) (by kernel_rfl) (by kernel_rfl) (by kernel_rfl) (by kernel_rfl) (by kernel_rfl) (by kernel_rfl) (fun w1 x h => h.below x.bel) (unhide HZ9) ?_
            apply Exists.intro
            refine ⟨?hq, ?hp, ?hl⟩
            case hq =>
              intro l w1 hl hI
              simp only [pickL, List.getElem?_cons_zero, List.getElem?_cons_succ, Option.toList_some, List.cons_append, List.nil_append] at hl
              subst hl
              have hne : Nonempty (Sub w1) := ⟨⟨w1, Below.refl _ _⟩⟩
              have q0 := sub_cell hI.o0
              have q1 := sub_cell hI.i0
              have q2 := sub_cell hI.i1
              have hPL := fun x : Sub w1 => place_any A5 c5 X.rows (k : Int) x.val (by omega) (own_rows (hI.below x.bel).p5)
              have hNR := fun x : Sub w1 => newRow_any (k : Int) ng has n x.val hs0 hs1
              rw [hrw] at hNR
              unfold beingV rowV at hNR
              have HPL := hide hPL
              have HNR := hide hNR
              clear hI hPL hNR
              repeat (go_big_quiet_step ((first | (go_at_call 86; exact sub_bel (unhide HPL _)) | (go_at_call 87; exact sub_bel (unhide HNR _)))))
              exact wpQuiet_nil rfl
            case hp =>
              intro l w1 hl
              simp only [pickL, List.getElem?_cons_zero, List.getElem?_cons_succ, Option.toList_some, List.cons_append, List.nil_append] at hl
              subst hl
              have hne : Nonempty (Sub w1) := ⟨⟨w1, Below.refl _ _⟩⟩
              repeat (go_big_quiet_step (fail))
              exact wpQuiet_nil rfl
            case hl =>
              intro l hl x
              simp only [pickL, List.getElem?_cons_zero, List.getElem?_cons_succ, Option.toList_some, List.cons_append, List.nil_append] at hl
              subst hl
              have hZ := (unhide HZ9).below x.bel
              have HZ := hide hZ
              clear hZ
              unfold wpLoud
              go_wp2
              refine lpost_intro fun x2 => ⟨fun _ => ?_, ?_⟩
              · exact ((unhide HZ).below ((Below.refl _ _).alloc (Nat.le_refl _) _)).below x2.bel
              · have hZ2 := ((unhide HZ).below ((Below.refl _ _).alloc (Nat.le_refl _) _)).below x2.bel
                have hv2 := (vb1_new x.val r).below x2.bel
                have hin := insert_any _ A5 c5 (placeN X.rows (k : Int)) X.rows r x.val.heap.size x2.val (by omega) (place_le _ _) hZ2.base (fun c o e => by have := ((unhide HZ).p5.lt c (by rw [e]; rfl)).2; omega) hZ2.p5 hv2
                have HIN := hide hin
                have HZ2 := hide hZ2
                clear hin hZ2 hv2
                unfold wpLoud
                go_wp2_with (go_at_call 85; refine (unhide HIN).mono ?_; rintro e w3 ⟨g5, c5', rfl, ho3, hg3⟩)
                refine lpost_intro fun x3 => ⟨fun h => absurd h (by decide), ?_⟩
                have hl5 : (insR X.rows (placeN X.rows (k : Int)) r).length = X.rows.length + 1 := insR_len _ _ _ (place_le _ _)
                have hZ3 := ((unhide HZ2).give5 (v5' := .slice (some ⟨g5, 0, none⟩) (X.rows.length + 1) c5') (rows' := insR X.rows (placeN X.rows (k : Int)) r) hg3 (by rw [hl5]; exact ho3)).below x3.bel
                have HZ3 := hide hZ3
                clear hZ3 ho3 hg3
                unfold wpLoud
                refine wpList_put1 rfl 37 (.tmp 75) (.tmp 74) rfl w8.heap.size 0 (.slice (some ⟨g5, 0, none⟩) (X.rows.length + 1) c5') rfl rfl rfl size36 ((unhide HZ3).there12 0 (by decide)) ?_
                intro W9 hW9
                unfold wpList
                refine lpost_intro fun x4 => ⟨fun h => absurd h (by decide), ?_⟩
                have hZ4 := ((unhide HZ3).set0 (.slice (some ⟨g5, 0, none⟩) (X.rows.length + 1) c5'))
                rw [← hW9] at hZ4
                have HZ4 := hide (hZ4.below x4.bel)
                clear hZ4 hW9
                unfold wpLoud
                go_wp2
                go_frame
                refine wp_region_puts [0, 1, 4] [2, 3] (fun L W => ∃ y0 y1 z0 z1, SB w (.slice A X.rows.length cap) (.slice G X.gens.length gcap) y0 y1 z0 z1 W ∧ (L 2 = true → y0 = .slice (some ⟨g5, 0, none⟩) (X.rows.length + 1) c5' ∧ y1 = .slice (some ⟨g8, 0, none⟩) X.gens.length c8) ∧ (L 3 = true → z0 = .int .i64 (k : Int) ∧ z1 = .int .i64 ng) ∧ FE w w6.heap.size w8.heap.size (w6.heap.size + 1) (k : Int) ng (.slice (some ⟨g5, 0, none⟩) (X.rows.length + 1) c5') (.slice (some ⟨g8, 0, none⟩) X.gens.length c8) (insR X.rows (placeN X.rows (k : Int)) r) (X.gens.set k ng) W)
                  (by kernel_rfl) (by kernel_rfl) (by kernel_rfl) (by kernel_rfl) (by kernel_rfl) (by kernel_rfl) (by kernel_rfl) ?_ ?_ ?_ ?_
                · rintro L w1 x ⟨y0, y1, z0, z1, h1, h2, h3, h4⟩
                  exact ⟨y0, y1, z0, z1, h1.below x.bel, h2, h3, h4.below x.bel⟩
                · rintro L L' w1 he ⟨y0, y1, z0, z1, h1, h2, h3, h4⟩
                  exact ⟨y0, y1, z0, z1, h1, by rw [he 2 (by simp)]; exact h2, by rw [he 3 (by simp)]; exact h3, h4⟩
                · exact ⟨_, _, _, _, (unhide HZ4).sb, fun h => (by cases h), fun h => (by cases h), (unhide HZ4).fin (c0 := .int .i64 0) (c1 := .int .i64 0) (unhide HZ6)⟩
                · apply Exists.intro
                  refine ⟨?hq, ?hl, ?hend⟩
                  case hq =>
                    rintro l L w1 hl ⟨y0, y1, z0, z1, h1, h2, h3, h4⟩
                    simp only [pickL, List.getElem?_cons_zero, List.getElem?_cons_succ, Option.toList_some, List.cons_append, List.nil_append] at hl
                    subst hl
                    have hne : Nonempty (Sub w1) := ⟨⟨w1, Below.refl _ _⟩⟩
                    have q0 := sub_cell h4.o0
                    have q1 := sub_cell h4.o1
                    have q2 := sub_cell h4.i0
                    have q3 := sub_cell h4.i1
                    clear h1 h2 h3 h4
                    repeat (go_big_quiet_step (fail))
                    exact wpQuiet_nil rfl
                  case hl =>
                    rintro i o hi ho L w1 ⟨y0, y1, z0, z1, h1, h2, h3, h4⟩ hL
                    simp only [List.mem_cons, List.not_mem_nil, or_false] at hi
                    rcases hi with rfl | rfl
                    · simp only [List.getElem?_cons_zero, List.getElem?_cons_succ, Option.some.injEq] at ho
                      subst ho
                      refine wpList_putN rfl 40 (.tmp 6) (.tmp 76) rfl (w.heap.size + 1) 0 [.slice (some ⟨g5, 0, none⟩) (X.rows.length + 1) c5', .slice (some ⟨g8, 0, none⟩) X.gens.length c8] rfl rfl (by simp [Value.oneCell']) size38 h1.thereA ?_
                      intro W3 hW3
                      unfold wpList
                      exact ⟨rfl, rfl, _, _, z0, z1, by rw [hW3]; exact h1.giveA _ _, fun _ => ⟨rfl, rfl⟩, fun h => h3 h, by rw [hW3]; exact h4.sets (by omega)⟩
                    · simp only [List.getElem?_cons_zero, List.getElem?_cons_succ, Option.some.injEq] at ho
                      subst ho
                      refine wpList_putN rfl 50 (.tmp 7) (.tmp 77) rfl (w.heap.size + 2) 0 [.int .i64 (k : Int), .int .i64 ng] rfl rfl (by simp [Value.oneCell']) size40 h1.thereB ?_
                      intro W3 hW3
                      unfold wpList
                      exact ⟨rfl, rfl, y0, y1, _, _, by rw [hW3]; exact h1.giveB _ _, fun h => h2 h, fun _ => ⟨rfl, rfl⟩, by rw [hW3]; exact h4.sets (by omega)⟩
                  case hend =>
                    rintro L w1 ⟨y0, y1, z0, z1, h1, h2, h3, h4⟩ hall
                    obtain ⟨rfl, rfl⟩ := h2 (hall 2 (by simp))
                    obtain ⟨rfl, rfl⟩ := h3 (hall 3 (by simp))
                    have HS8 := hide h1
                    have HE := hide h4
                    clear h1 h2 h3 h4 hall
                    go_wp2
                    have t0 := (unhide HS8).t0
                    have t1 := (unhide HS8).t1
                    have s0 := (unhide HS8).s0
                    have s1 := (unhide HS8).s1
                    have hle : (insR X.rows (placeN X.rows (k : Int)) r).length = X.rows.length + 1 := insR_len _ _ _ (place_le _ _)
                    refine bodyPost_ret (v := .tuple #[.agg #[.slice (some ⟨g5, 0, none⟩) (X.rows.length + 1) c5', .slice (some ⟨g8, 0, none⟩) X.gens.length c8], .agg #[.int .i64 (k : Int), .int .i64 ng], .int .i64 0]) (by simp [results, Try.results63, go_sem, t0, t1, s0, s1]) rfl ⟨some ⟨g5, 0, none⟩, c5', some ⟨g8, 0, none⟩, c8, ?_, ?_, (unhide HS8).bel⟩
                    · simp [hle]
                    · exact (unhide HE).wld hle.symm (by simp)
        · rw [if_pos hne]
          generalize (nextF X).1.1 = ni at *
          generalize (nextF X).1.2 = ng at *
          generalize (nextF X).2 = ne at *
          unfold emptyW
          go_enter Try.func63, Try.ntmps63
          go_wp2_with (first
          | (go_at_call 42; refine (unhide HP _ (unhide HSB).bel).mono ?_; rintro e w5 ⟨rfl, hb5⟩; have hS5 := (unhide HSB).below hb5; have hS6 := hS5.below ((Below.refl _ _).alloc (Nat.le_refl _) (.cells #[.int .i64 0, .int .i64 wa] 30)); have r0 := hS6.r0; have r1 := hS6.r1; have HS6 := hide hS6; clear hb5 hS5 hS6)
          | (go_at_call 33; refine (set_any _ _).mono ?_; rintro e w1 ⟨rfl, hw⟩; obtain rfl := hw.symm)
          | (go_at_call 81; refine (value_any _ _).mono ?_; rintro e w1 ⟨rfl, hw⟩; obtain rfl := hw.symm)
          | (go_at_call 83; refine (unhide HNX _ (unhide HS6).bel).mono ?_; rintro e w6 ⟨rfl, hb6⟩; have hS8 := (unhide HS6).below hb6; have hS9 := hS8.below ((Below.refl _ _).alloc (Nat.le_refl _) (.cells #[.int .i64 ni, .int .i64 ng] 50)); have r0' := hS9.r0; have r1' := hS9.r1; have HS9 := hide hS9; clear hb6 hS8 hS9 r0 r1)
          | (refine wpList_putN rfl 40 (.tmp 6) (.tmp 39) rfl (w.heap.size + 1) 0 [.slice none 0 0, .slice none 0 0] rfl rfl (by simp [Value.oneCell']) size38 (unhide HS9).thereA ?_; intro W3 hW3; have hS7 := (unhide HS9).giveA (.slice none 0 0) (.slice none 0 0); rw [← hW3] at hS7; have HS7 := hide hS7; clear hW3 hS7)
          | (refine wpList_putN rfl 50 (.tmp 7) (.tmp 40) rfl (w.heap.size + 2) 0 [.int .i64 0, .int .i64 0] rfl rfl (by simp [Value.oneCell']) size40 (unhide HS7).thereB ?_; intro W4 hW4; have hS8 := (unhide HS7).giveB (.int .i64 0) (.int .i64 0); rw [← hW4] at hS8; have HS8 := hide hS8; clear hW4 hS8))
          have t0 := (unhide HS8).t0
          have t1 := (unhide HS8).t1
          have s0 := (unhide HS8).s0
          have s1 := (unhide HS8).s1
          refine bodyPost_ret (v := .tuple #[.agg #[.slice none 0 0, .slice none 0 0], .agg #[.int .i64 0, .int .i64 0], .int .i64 ne]) (by simp [results, Try.results63, go_sem, t0, t1, s0, s1]) rfl ⟨none, 0, none, 0, rfl, wldNew_empty _ _, (unhide HS8).bel⟩
  · rw [if_pos hw0]
    generalize (wrongW X).2 = wa at *
    generalize (wrongW X).1 = we at *
    unfold emptyW
    go_enter Try.func63, Try.ntmps63
    go_wp2_with (first
      | (go_at_call 42; refine (unhide HP _ (unhide HSB).bel).mono ?_; rintro e w5 ⟨rfl, hb5⟩; have hS5 := (unhide HSB).below hb5; have hS6 := hS5.below ((Below.refl _ _).alloc (Nat.le_refl _) (.cells #[.int .i64 we, .int .i64 wa] 30)); have HS6 := hide hS6; have HZ5 := hide hS5.sz; clear hb5 hS5 hS6))
    have hf0 : (w5.alloc (.cells #[.int .i64 we, .int .i64 wa] 30)).cell? ⟨w5.heap.size, 0, none⟩ = some (.int .i64 we) := by simp
    have HF0 := hide hf0
    clear hf0
    refine wp_region_puts [0, 1, 2, 3, 6] [4, 5] (fun _ W => SB w (.slice A X.rows.length cap) (.slice G X.gens.length gcap) (.slice none 0 0) (.slice none 0 0) (.int .i64 0) (.int .i64 0) W ∧ W.cell? ⟨w5.heap.size, 0, none⟩ = some (.int .i64 we)) (by kernel_rfl) (by kernel_rfl) (by kernel_rfl) (by kernel_rfl) (by kernel_rfl) (by kernel_rfl) (by kernel_rfl)
      (fun L w1 x h => ⟨h.1.below x.bel, keep_below x.bel h.2⟩) (fun _ _ _ _ h => h) ⟨unhide HS6, unhide HF0⟩ ?_
    apply Exists.intro
    refine ⟨?hq, ?hl, ?hend⟩
    case hq =>
      intro l L w1 hl hI
      simp only [pickL, List.getElem?_cons_zero, List.getElem?_cons_succ, Option.toList_some, List.cons_append, List.nil_append] at hl
      subst hl
      have hne : Nonempty (Sub w1) := ⟨⟨w1, Below.refl _ _⟩⟩
      have f0 := sub_cell hI.2
      clear hI
      repeat (go_big_quiet_step (fail))
      exact wpQuiet_nil rfl
    case hl =>
      intro i o hi ho L w1 hI hL
      simp only [List.mem_cons, List.not_mem_nil, or_false] at hi
      rcases hi with rfl | rfl
      · simp only [List.getElem?_cons_zero, List.getElem?_cons_succ, Option.some.injEq] at ho
        subst ho
        refine wpList_putN rfl 40 (.tmp 6) (.tmp 18) rfl (w.heap.size + 1) 0 [.slice none 0 0, .slice none 0 0] rfl rfl (by simp [Value.oneCell']) size38 hI.1.thereA ?_
        intro W3 hW3
        unfold wpList
        refine ⟨rfl, rfl, by rw [hW3]; exact hI.1.giveA _ _, ?_⟩
        rw [hW3]
        exact (setcs_other (by have := unhide HZ5; simp only [ne_eq]; omega)).trans hI.2
      · simp only [List.getElem?_cons_zero, List.getElem?_cons_succ, Option.some.injEq] at ho
        subst ho
        refine wpList_putN rfl 50 (.tmp 7) (.tmp 19) rfl (w.heap.size + 2) 0 [.int .i64 0, .int .i64 0] rfl rfl (by simp [Value.oneCell']) size40 hI.1.thereB ?_
        intro W3 hW3
        unfold wpList
        refine ⟨rfl, rfl, by rw [hW3]; exact hI.1.giveB _ _, ?_⟩
        rw [hW3]
        exact (setcs_other (by have := unhide HZ5; simp only [ne_eq]; omega)).trans hI.2
    case hend =>
      intro L w1 hI _
      have HS8 := hide hI.1
      clear hI
      go_wp2
      have t0 := (unhide HS8).t0
      have t1 := (unhide HS8).t1
      have s0 := (unhide HS8).s0
      have s1 := (unhide HS8).s1
      refine bodyPost_ret (v := .tuple #[.agg #[.slice none 0 0, .slice none 0 0], .agg #[.int .i64 0, .int .i64 0], .int .i64 we]) (by simp [results, Try.results63, go_sem, t0, t1, s0, s1]) rfl ⟨none, 0, none, 0, rfl, wldNew_empty _ _, (unhide HS8).bel⟩
end Go.Proofs.Ytnbleebilmghcab
