/- plain.Spawn: its memory. -/
import Derived.Test.YtmbjghjpofcdpaaPNext2
import Derived.Test.YtmbjghjpofcdpaaMix
import Derived.Lib.SmallJoins
import Derived.Deep.AppendLies
set_option linter.unusedVariables false
set_option linter.unusedSimpArgs false
set_option linter.unnecessarySimpa false
namespace Go.Proofs.Ytmbjghjpofcdpaa
open Go Go.RowKit
attribute [local go_sem ↓] Go.wp_at_zero Go.wp_at_succ

theorem size26 : (Try.prog.info? 26).map (·.size) = some 1 := by kernel_rfl
/-- The gens with one that came. -/
def gensF (gens : List Int) (i g : Int) : List Int := if i = (gens.length : Int) then gens ++ [g] else gens.set i.toNat g
/-- What comes of Spawn. -/
def spawnF (X : Wd) (has n : Int) : Int × (Int × Int) × Wd :=
  if (wrongW X).1 ≠ 0 then ((wrongW X).1, (0, 0), emptyW) else if (setB has && valB n) = false then (3, (0, 0), emptyW) else
    if (nextF X).2 ≠ 0 then ((nextF X).2, (0, 0), emptyW) else (0, (nextF X).1, ⟨insR X.rows (placeN X.rows (nextF X).1.1) (newR (nextF X).1.1 (nextF X).1.2 has n), gensF X.gens (nextF X).1.1 (nextF X).1.2⟩)

/-- The boxes of Spawn: the world, the two answers. -/
structure SB (w : World) (u0 u1 y0 y1 z0 z1 : Value) (W : World) : Prop where
  bel : Below w.heap.size w W
  sz : w.heap.size + 3 ≤ W.heap.size
  r0 : W.cell? ⟨w.heap.size, 0, none⟩ = some u0
  r1 : W.cell? ⟨w.heap.size, 1, none⟩ = some u1
  t0 : W.cell? ⟨w.heap.size + 1, 0, none⟩ = some y0
  t1 : W.cell? ⟨w.heap.size + 1, 1, none⟩ = some y1
  s0 : W.cell? ⟨w.heap.size + 2, 0, none⟩ = some z0
  s1 : W.cell? ⟨w.heap.size + 2, 1, none⟩ = some z1
  f : ∀ i, W.frozen? ⟨w.heap.size + 1, i, none⟩ = false
  k : ∀ i, W.frozen? ⟨w.heap.size + 2, i, none⟩ = false
section
variable {w W W1 : World} {u0 u1 y0 y1 z0 z1 : Value}
theorem SB.keep (h : SB w u0 u1 y0 y1 z0 z1 W) (hb : Below (w.heap.size + 3) W W1) : SB w u0 u1 y0 y1 z0 z1 W1 :=
  ⟨h.bel.trans (hb.mono (by omega)), Nat.le_trans h.sz hb.size, (hb.cell (p := ⟨w.heap.size, 0, none⟩) (by simp)).trans h.r0, (hb.cell (p := ⟨w.heap.size, 1, none⟩) (by simp)).trans h.r1, (hb.cell (p := ⟨w.heap.size + 1, 0, none⟩) (by simp)).trans h.t0, (hb.cell (p := ⟨w.heap.size + 1, 1, none⟩) (by simp)).trans h.t1,
    (hb.cell (p := ⟨w.heap.size + 2, 0, none⟩) (by simp)).trans h.s0, (hb.cell (p := ⟨w.heap.size + 2, 1, none⟩) (by simp)).trans h.s1, fun i => (hb.frozen (p := ⟨w.heap.size + 1, i, none⟩) (by simp)).trans (h.f i), fun i => (hb.frozen (p := ⟨w.heap.size + 2, i, none⟩) (by simp)).trans (h.k i)⟩
theorem SB.below (h : SB w u0 u1 y0 y1 z0 z1 W) (hb : Below W.heap.size W W1) : SB w u0 u1 y0 y1 z0 z1 W1 := h.keep (hb.mono h.sz)
theorem SB.thereA (h : SB w u0 u1 y0 y1 z0 z1 W) : W.there (w.heap.size + 1) 0 2 := fun j hj => by
  rcases (by omega : j = 0 ∨ j = 1) with rfl | rfl
  · exact ⟨by rw [Nat.zero_add, h.t0]; rfl, h.f _⟩
  · exact ⟨by rw [Nat.zero_add, h.t1]; rfl, h.f _⟩
theorem SB.thereB (h : SB w u0 u1 y0 y1 z0 z1 W) : W.there (w.heap.size + 2) 0 2 := fun j hj => by
  rcases (by omega : j = 0 ∨ j = 1) with rfl | rfl
  · exact ⟨by rw [Nat.zero_add, h.s0]; rfl, h.k _⟩
  · exact ⟨by rw [Nat.zero_add, h.s1]; rfl, h.k _⟩
theorem SB.giveA (h : SB w u0 u1 y0 y1 z0 z1 W) (a0 a1 : Value) : SB w u0 u1 a0 a1 z0 z1 (W.setCells (w.heap.size + 1) 0 [a0, a1]) := by
  have o : ∀ p : Addr, p.block ≠ w.heap.size + 1 → (W.setCells (w.heap.size + 1) 0 [a0, a1]).cell? p = W.cell? p := fun p hp => setcs_other hp
  have s := fun j hj => World.cell?_setCells_in (w.heap.size + 1) [a0, a1] 0 W (fun j hj => (h.thereA j hj).1) j hj
  exact ⟨below_setCells (w.heap.size + 1) (by omega) [a0, a1] 0 W h.bel, by rw [size_setCells]; exact h.sz, (o _ (by simp)).trans h.r0, (o _ (by simp)).trans h.r1, s 0 (by simp), s 1 (by simp), (o _ (by simp)).trans h.s0, (o _ (by simp)).trans h.s1, fun i => by rw [World.frozen?_setCells]; exact h.f i, fun i => by rw [World.frozen?_setCells]; exact h.k i⟩
theorem SB.giveB (h : SB w u0 u1 y0 y1 z0 z1 W) (a0 a1 : Value) : SB w u0 u1 y0 y1 a0 a1 (W.setCells (w.heap.size + 2) 0 [a0, a1]) := by
  have o : ∀ p : Addr, p.block ≠ w.heap.size + 2 → (W.setCells (w.heap.size + 2) 0 [a0, a1]).cell? p = W.cell? p := fun p hp => setcs_other hp
  have s := fun j hj => World.cell?_setCells_in (w.heap.size + 2) [a0, a1] 0 W (fun j hj => (h.thereB j hj).1) j hj
  exact ⟨below_setCells (w.heap.size + 2) (by omega) [a0, a1] 0 W h.bel, by rw [size_setCells]; exact h.sz, (o _ (by simp)).trans h.r0, (o _ (by simp)).trans h.r1, (o _ (by simp)).trans h.t0, (o _ (by simp)).trans h.t1, s 0 (by simp), s 1 (by simp), fun i => by rw [World.frozen?_setCells]; exact h.f i, fun i => by rw [World.frozen?_setCells]; exact h.k i⟩
end
theorem SB.start (w : World) (u0 u1 : Value) : SB w u0 u1 (.slice none 0 0) (.slice none 0 0) (.int .i64 0) (.int .i64 0) (((w.alloc (.cells #[u0, u1] 38)).alloc (.cells #[.slice none 0 0, .slice none 0 0] 38)).alloc (.cells #[.int .i64 0, .int .i64 0] 40)) := by
  obtain ⟨w1, h1⟩ : ∃ W, W = w.alloc (.cells #[u0, u1] 38) := ⟨_, rfl⟩
  have z1 : w1.heap.size = w.heap.size + 1 := by rw [h1]; simp
  have n1 := NW1.start w u0 u1
  rw [← h1] at n1 ⊢
  clear h1
  obtain ⟨a0, a1, af, ab⟩ := new_box (W := w1) (u0 := .slice none 0 0) (u1 := .slice none 0 0) (t := 38) z1
  obtain ⟨w2, h2⟩ : ∃ W, W = w1.alloc (.cells #[.slice none 0 0, .slice none 0 0] 38) := ⟨_, rfl⟩
  rw [← h2] at a0 a1 af ab ⊢
  have z2 : w2.heap.size = w.heap.size + 2 := by rw [h2]; simp; omega
  obtain ⟨c0, c1, cf, cb⟩ := new_box (W := w2) (u0 := .int .i64 0) (u1 := .int .i64 0) (t := 40) z2
  have n3 := (n1.below ab).below cb
  exact ⟨n3.bel, by simp; omega, n3.r0, n3.r1, keep_below cb a0, keep_below cb a1, c0, c1, fun i => (cb.frozen (p := ⟨w.heap.size + 1, i, none⟩) (by show w.heap.size + 1 < w2.heap.size; omega)).trans (af i), cf⟩

theorem grown_setc (W : World) (b i : Nat) (v : Value) : W.grownBy (W.setCell ⟨b, i, none⟩ v) (some b) :=
  ⟨rfl, rfl, rfl, by simp, fun k hk hne => Below.heap_setCell W ⟨b, i, none⟩ v k (fun e => hne (by rw [e]))⟩
theorem block_lt {W : World} {p : Addr} {v : Value} (h : W.cell? p = some v) : p.block < W.heap.size := World.block_lt_of_cell? W p h

/-- Spawn's second half: the being, the world that is to be answered. -/
structure ZB (w : World) (u0 u1 : Value) (b10 b12 B : Nat) (i g : Int) (c0 c1 v5 v8 : Value) (rows : List RowI) (gens : List Int) (W : World) : Prop where
  sb : SB w u0 u1 (.slice none 0 0) (.slice none 0 0) (.int .i64 0) (.int .i64 0) W
  i0 : W.cell? ⟨b10, 0, none⟩ = some (.int .i64 i)
  i1 : W.cell? ⟨b10, 1, none⟩ = some (.int .i64 g)
  o0 : W.cell? ⟨b12, 0, none⟩ = some c0
  o1 : W.cell? ⟨b12, 1, none⟩ = some c1
  fz : ∀ j, W.frozen? ⟨b12, j, none⟩ = false
  p5 : W.ownsRow B 61 11 v5 rows.length (cellsOfRows rows)
  p8 : W.ownsRow B 3 1 v8 gens.length (cellsOfInts gens)
  hB : w.heap.size + 3 ≤ B
  h10 : b10 < B
  h12 : B ≤ b12
  ty : ∃ cs, W.heap[b12]? = some (.cells cs 38 (0, 0))
theorem own_nety {W : World} {B : Nat} {e : TypeId} {size n : Nat} {v : Value} {xs : List Value} (h : W.ownsRow B e size v n xs) {b : Nat} {t : TypeId} (hb : ∃ cs, W.heap[b]? = some (.cells cs t (0, 0))) (ht : t ≠ e) : v.ownBlock ≠ some b := by
  obtain ⟨cs, hb⟩ := hb
  rcases h.2 with ⟨rfl, _⟩ | ⟨g, cap, cur, rfl, _, hg, _⟩
  · simp [Value.ownBlock]
  · intro e'
    simp only [Value.ownBlock, Option.some.injEq] at e'
    subst e'
    rw [hg] at hb
    simp only [Option.some.injEq, Obj.cells.injEq] at hb
    exact ht hb.2.1.symm
theorem ZB.n5 {w W : World} {u0 u1 : Value} {b10 b12 B : Nat} {i g : Int} {c0 c1 v5 v8 : Value} {rows : List RowI} {gens : List Int} (h : ZB w u0 u1 b10 b12 B i g c0 c1 v5 v8 rows gens W) : v5.ownBlock ≠ some b12 := own_nety h.p5 h.ty (by decide)
theorem ZB.n8 {w W : World} {u0 u1 : Value} {b10 b12 B : Nat} {i g : Int} {c0 c1 v5 v8 : Value} {rows : List RowI} {gens : List Int} (h : ZB w u0 u1 b10 b12 B i g c0 c1 v5 v8 rows gens W) : v8.ownBlock ≠ some b12 := own_nety h.p8 h.ty (by decide)
section
variable {w W W1 : World} {u0 u1 : Value} {b10 b12 B : Nat} {i g : Int} {c0 c1 v5 v8 v5' v8' : Value} {rows rows' : List RowI} {gens gens' : List Int}
theorem ZB.below (h : ZB w u0 u1 b10 b12 B i g c0 c1 v5 v8 rows gens W) (hb : Below W.heap.size W W1) : ZB w u0 u1 b10 b12 B i g c0 c1 v5 v8 rows gens W1 :=
  ⟨h.sb.below hb, keep_below hb h.i0, keep_below hb h.i1, keep_below hb h.o0, keep_below hb h.o1, fun j => (hb.frozen (p := ⟨b12, j, none⟩) (show b12 < _ from block_lt h.o0)).trans (h.fz j), own_kept h.p5 hb, own_kept h.p8 hb, h.hB, h.h10, h.h12, h.ty.imp fun cs e => (hb.block b12 (block_lt h.o0)).trans e⟩
theorem ZB.grown (h : ZB w u0 u1 b10 b12 B i g c0 c1 v5 v8 rows gens W) {row : Option Nat} (hg : W.grownBy W1 row) (hr : ∀ k, row = some k → B ≤ k) (hr2 : row ≠ some b12)
    (q5 : W1.ownsRow B 61 11 v5' rows'.length (cellsOfRows rows')) (q8 : W1.ownsRow B 3 1 v8' gens'.length (cellsOfInts gens')) : ZB w u0 u1 b10 b12 B i g c0 c1 v5' v8' rows' gens' W1 := by
  have hb : B ≤ W.heap.size := Nat.le_trans h.h12 (Nat.le_of_lt (block_lt h.o0))
  have n10 : (some b10 : Option Nat) ≠ row := fun e => by have := hr b10 e.symm; have := h.h10; omega
  have n12 : (some b12 : Option Nat) ≠ row := fun e => hr2 e.symm
  exact ⟨h.sb.keep ((grown_below hg hr hb).mono h.hB), hg.cell h.i0 n10, hg.cell h.i1 n10, hg.cell h.o0 n12, hg.cell h.o1 n12, fun j => (hg.frozen_far ⟨b12, j, none⟩ (show b12 < _ from block_lt h.o0) n12).trans (h.fz j), q5, q8, h.hB, h.h10, h.h12, h.ty.imp fun cs e => (hg.block b12 (block_lt h.o0) n12).trans e⟩
theorem ZB.row8 (h : ZB w u0 u1 b10 b12 B i g c0 c1 v5 v8 rows gens W) : ∀ k, v8.ownBlock = some k → B ≤ k := fun k e => (h.p8.lt k e).1
theorem ZB.row5 (h : ZB w u0 u1 b10 b12 B i g c0 c1 v5 v8 rows gens W) : ∀ k, v5.ownBlock = some k → B ≤ k := fun k e => (h.p5.lt k e).1
theorem ZB.give8 (h : ZB w u0 u1 b10 b12 B i g c0 c1 v5 v8 rows gens W) (hg : W.grownBy W1 v8.ownBlock) (q8 : W1.ownsRow B 3 1 v8' gens'.length (cellsOfInts gens')) : ZB w u0 u1 b10 b12 B i g c0 c1 v5 v8' rows gens' W1 :=
  h.grown hg h.row8 h.n8 (h.p5.kept hg (own_apart h.p5 h.p8 (by decide))) q8
theorem ZB.give5 (h : ZB w u0 u1 b10 b12 B i g c0 c1 v5 v8 rows gens W) (hg : W.grownBy W1 v5.ownBlock) (q5 : W1.ownsRow B 61 11 v5' rows'.length (cellsOfRows rows')) : ZB w u0 u1 b10 b12 B i g c0 c1 v5' v8 rows' gens W1 :=
  h.grown hg h.row5 h.n5 q5 (h.p8.kept hg (own_apart h.p8 h.p5 (by decide)))
theorem ZB.there12 (h : ZB w u0 u1 b10 b12 B i g c0 c1 v5 v8 rows gens W) (k : Nat) (hk : k < 2) : W.there b12 k 1 := by
  rcases (by omega : k = 0 ∨ k = 1) with rfl | rfl
  · exact there_of h.o0 h.fz
  · exact there_of h.o1 h.fz
theorem ZB.set12 (h : ZB w u0 u1 b10 b12 B i g c0 c1 v5 v8 rows gens W) (k : Nat) (hk : k < 2) (v : Value) : ZB w u0 u1 b10 b12 B i g (if k = 0 then v else c0) (if k = 1 then v else c1) v5 v8 rows gens (W.setCell ⟨b12, k, none⟩ v) := by
  have hg := grown_setc W b12 k v
  have hb : Below B W (W.setCell ⟨b12, k, none⟩ v) := (Below.refl _ _).setCell (p := ⟨b12, k, none⟩) h.h12 v
  have n10 : (some b10 : Option Nat) ≠ some b12 := fun e => by have := Option.some.inj e; have := h.h10; have := h.h12; omega
  refine ⟨h.sb.keep (hb.mono h.hB), hg.cell h.i0 n10, hg.cell h.i1 n10, ?_, ?_, fun j => by rw [World.frozen?_setCell]; exact h.fz j, h.p5.kept hg (.inr h.n5), h.p8.kept hg (.inr h.n8), h.hB, h.h10, h.h12, h.ty.elim fun cs e => ⟨_, heap_setCell_same W b12 k cs 38 v e⟩⟩
  · rcases (by omega : k = 0 ∨ k = 1) with rfl | rfl
    · exact setc_same h.o0
    · exact setc_other (addr_ne (by decide)) h.o0
  · rcases (by omega : k = 0 ∨ k = 1) with rfl | rfl
    · exact setc_other (addr_ne (by decide)) h.o1
    · exact setc_same h.o1
theorem ZB.set1 (h : ZB w u0 u1 b10 b12 B i g c0 c1 v5 v8 rows gens W) (v : Value) : ZB w u0 u1 b10 b12 B i g c0 v v5 v8 rows gens (W.setCell ⟨b12, 1, none⟩ v) := by
  have := ZB.set12 h 1 (by decide) v
  simpa using this
theorem ZB.set0 (h : ZB w u0 u1 b10 b12 B i g c0 c1 v5 v8 rows gens W) (v : Value) : ZB w u0 u1 b10 b12 B i g v c1 v5 v8 rows gens (W.setCell ⟨b12, 0, none⟩ v) := by
  have := ZB.set12 h 0 (by decide) v
  simpa using this
theorem cellsOfInts_set (l : List Int) (k : Nat) (x : Int) : (cellsOfInts l).set k (.int .i64 x) = cellsOfInts (l.set k x) := by
  unfold cellsOfInts
  rw [List.map_set]
theorem ZB.setG {g8 c8 ln : Nat} (h : ZB w u0 u1 b10 b12 B i g c0 c1 v5 (.slice (some ⟨g8, 0, none⟩) ln c8) rows gens W) (hln : ln = gens.length) (k : Nat) (hk : k < gens.length) (x : Int) :
    ZB w u0 u1 b10 b12 B i g c0 c1 v5 (.slice (some ⟨g8, 0, none⟩) ln c8) rows (gens.set k x) (W.setCell ⟨g8, k, none⟩ (.int .i64 x)) := by
  subst hln
  have q := own_set h.p8 (j := k) (by rw [cellsOfInts_len]; omega) (.int .i64 x)
  rw [cellsOfInts_set] at q
  exact h.give8 (grown_setc W g8 k (.int .i64 x)) (by rw [List.length_set]; exact q)
theorem ZB.thereG {g8 c8 ln : Nat} (h : ZB w u0 u1 b10 b12 B i g c0 c1 v5 (.slice (some ⟨g8, 0, none⟩) ln c8) rows gens W) (hln : ln = gens.length) (k : Nat) (hk : k < gens.length) : W.there g8 k 1 := by
  subst hln
  exact own_there h.p8 k 1 (by rw [cellsOfInts_len]; omega)
theorem ZB.start {u0 u1 : Value} (h : SB w u0 u1 (.slice none 0 0) (.slice none 0 0) (.int .i64 0) (.int .i64 0) W) (h0 : W.cell? ⟨b10, 0, none⟩ = some (.int .i64 i)) (h1 : W.cell? ⟨b10, 1, none⟩ = some (.int .i64 g)) (q5 : W.ownsRow B 61 11 v5 rows.length (cellsOfRows rows)) (q8 : W.ownsRow B 3 1 v8 gens.length (cellsOfInts gens))
    (hB : w.heap.size + 3 ≤ B) (h10 : b10 < B) (h12 : B ≤ W.heap.size) : ZB w u0 u1 b10 W.heap.size B i g v5 v8 v5 v8 rows gens (W.alloc (.cells #[v5, v8] 38)) := by
  have hb : Below W.heap.size W (W.alloc (.cells #[v5, v8] 38)) := (Below.refl _ _).alloc (Nat.le_refl _) _
  obtain ⟨a0, a1, af, ab⟩ := new_box (W := W) (u0 := v5) (u1 := v8) (t := 38) rfl
  exact ⟨h.below hb, keep_below hb h0, keep_below hb h1, a0, a1, af, own_kept q5 hb, own_kept q8 hb, hB, h10, h12, ⟨#[v5, v8], (by show (W.heap.push _)[W.heap.size]? = _; simp)⟩⟩
end
theorem VB1.below {w w1 : World} {vb : Nat} {r : RowI} (h : VB1 w vb r) (hb : Below w.heap.size w w1) : VB1 w1 vb r := ⟨(hb.block vb (Array.getElem?_eq_some_iff.1 h.h).1).trans h.h⟩
theorem vb1_new (W : World) (r : RowI) : VB1 (W.alloc (.cells (rowCells r).toArray 61)) W.heap.size r := ⟨by show (W.heap.push _)[W.heap.size]? = _; simp⟩
theorem own_rows {W : World} {base : Nat} {A : Option Addr} {c : Nat} {rows : List RowI} (h : W.ownsRow base 61 11 (.slice A rows.length c) rows.length (cellsOfRows rows)) : RowsL W A rows := by
  obtain ⟨A', c', e, hr⟩ := rowsL_own h
  simp only [Value.slice.injEq, true_and] at e
  rw [e.1]; exact hr
theorem own_ints {W : World} {base : Nat} {A : Option Addr} {c : Nat} {l : List Int} (h : W.ownsRow base 3 1 (.slice A l.length c) l.length (cellsOfInts l)) : IntsL W A l := by
  obtain ⟨A', c', e, hr⟩ := intsL_own h
  simp only [Value.slice.injEq, true_and] at e
  rw [e.1]; exact hr
theorem nxTo_ok (X : Wd) : ∀ m j, m + j = X.gens.length → (nxTo X m j).2 = 0 → ∃ k : Nat, (nxTo X m j).1.1 = (k : Int) ∧ k ≤ X.gens.length
  | 0, j, h, h0 => by
    unfold nxTo at h0 ⊢
    split at h0
    · simp at h0
    · rename_i hc; rw [if_neg hc]; exact ⟨X.gens.length, rfl, Nat.le_refl _⟩
  | m + 1, j, h, h0 => by
    unfold nxTo at h0 ⊢
    split at h0
    · rename_i hc
      rw [if_pos hc]
      exact ⟨j, rfl, by omega⟩
    · rename_i hc
      rw [if_neg hc]
      exact nxTo_ok X m (j + 1) (by omega) h0
theorem next_ok (X : Wd) (h : (nextF X).2 = 0) : ∃ k : Nat, (nextF X).1.1 = (k : Int) ∧ k ≤ X.gens.length := nxTo_ok X _ 0 (by omega) h
theorem own_le {w : World} {base base' size n : Nat} {e : TypeId} {v : Value} {xs : List Value} (h : w.ownsRow base e size v n xs) (hb : base' ≤ base) : w.ownsRow base' e size v n xs := by
  refine ⟨h.1, ?_⟩
  rcases h.2 with h2 | ⟨g, cap, cur, h3, h4, h5⟩
  · exact .inl h2
  · exact .inr ⟨g, cap, cur, h3, Nat.le_trans hb h4, h5⟩
theorem own_base (A : Option Addr) (cap : Nat) (rows : List RowI) (G : Option Addr) (gcap : Nat) (gens : List Int) (w : World) (hn : rows.length * 88 ≤ 140737488355328) (hgn : gens.length * 8 ≤ 140737488355328) (hR : RowsL w A rows) (hG : IntsL w G gens) :
    Calls Try.prog 37 #[worldV A rows.length cap G gens.length gcap] w fun e w' => ∃ A5 c5 A8 c8, e = .returned (.agg #[.slice A5 rows.length c5, .slice A8 gens.length c8]) ∧ w'.ownsRow w.heap.size 61 11 (.slice A5 rows.length c5) rows.length (cellsOfRows rows) ∧ w'.ownsRow w.heap.size 3 1 (.slice A8 gens.length c8) gens.length (cellsOfInts gens) ∧ Below w.heap.size w w' :=
  (own_sl A cap rows G gcap gens w hn hgn hR hG).mono fun e w' ⟨A5, c5, A8, c8, he, h5, h8, hb⟩ => ⟨A5, c5, A8, c8, he, own_le h5 (by omega), own_le h8 (by omega), hb⟩
theorem own_base2 (A : Option Addr) (cap : Nat) (rows : List RowI) (G : Option Addr) (gcap : Nat) (gens : List Int) (w : World) (hn : rows.length * 88 ≤ 140737488355328) (hgn : gens.length * 8 ≤ 140737488355328) (hg : 0 < gens.length) (hR : RowsL w A rows) (hG : IntsL w G gens) :
    Calls Try.prog 37 #[worldV A rows.length cap G gens.length gcap] w fun e w' => ∃ A5 c5 g8 c8, e = .returned (.agg #[.slice A5 rows.length c5, .slice (some ⟨g8, 0, none⟩) gens.length c8]) ∧ w'.ownsRow w.heap.size 61 11 (.slice A5 rows.length c5) rows.length (cellsOfRows rows) ∧ w'.ownsRow w.heap.size 3 1 (.slice (some ⟨g8, 0, none⟩) gens.length c8) gens.length (cellsOfInts gens) ∧ Below w.heap.size w w' :=
  (own_base A cap rows G gcap gens w hn hgn hR hG).mono fun e w' ⟨A5, c5, A8, c8, he, h5, h8, hb⟩ => by
    obtain ⟨g, c, hv, _⟩ := own_pos h8 hg
    simp only [Value.slice.injEq, true_and] at hv
    obtain ⟨rfl, rfl⟩ := hv
    exact ⟨A5, c5, g, c8, he, h5, h8, hb⟩
theorem ZB.app8 {w W W1 : World} {u0 u1 : Value} {b10 b12 B : Nat} {i g : Int} {c0 c1 v5 v8 : Value} {rows : List RowI} {gens : List Int} {g8 c8 : Nat} (h : ZB w u0 u1 b10 b12 B i g c0 c1 v5 v8 rows gens W)
    (q8 : W1.ownsRow B 3 1 (.slice (some ⟨g8, 0, none⟩) (gens.length + 1) c8) (gens.length + 1) (cellsOfInts gens ++ [.int .i64 0])) (hg : W.grownBy W1 v8.ownBlock) :
    ZB w u0 u1 b10 b12 B i g c0 c1 v5 (.slice (some ⟨g8, 0, none⟩) (gens ++ [0]).length c8) rows (gens ++ [0]) W1 := by
  refine h.give8 hg ?_
  rw [show (gens ++ [(0 : Int)]).length = gens.length + 1 by simp, show cellsOfInts (gens ++ [0]) = cellsOfInts gens ++ [.int .i64 0] by simp [cellsOfInts]]
  exact q8
theorem ZB.base {w W : World} {u0 u1 : Value} {b10 b12 B : Nat} {i g : Int} {c0 c1 v5 v8 : Value} {rows : List RowI} {gens : List Int} (h : ZB w u0 u1 b10 b12 B i g c0 c1 v5 v8 rows gens W) : B ≤ W.heap.size := Nat.le_trans h.h12 (Nat.le_of_lt (block_lt h.o0))

/-- At Spawn's end. -/
structure FE (w : World) (b10 b12 B : Nat) (i g : Int) (v5 v8 : Value) (rows : List RowI) (gens : List Int) (W : World) : Prop where
  i0 : W.cell? ⟨b10, 0, none⟩ = some (.int .i64 i)
  i1 : W.cell? ⟨b10, 1, none⟩ = some (.int .i64 g)
  o0 : W.cell? ⟨b12, 0, none⟩ = some v5
  o1 : W.cell? ⟨b12, 1, none⟩ = some v8
  p5 : W.ownsRow B 61 11 v5 rows.length (cellsOfRows rows)
  p8 : W.ownsRow B 3 1 v8 gens.length (cellsOfInts gens)
  hB : w.heap.size + 3 ≤ B
  h10 : w.heap.size + 3 ≤ b10
  h12 : B ≤ b12
section
variable {w W W1 : World} {b10 b12 B : Nat} {i g : Int} {v5 v8 : Value} {rows : List RowI} {gens : List Int}
theorem FE.below (h : FE w b10 b12 B i g v5 v8 rows gens W) (hb : Below W.heap.size W W1) : FE w b10 b12 B i g v5 v8 rows gens W1 :=
  ⟨keep_below hb h.i0, keep_below hb h.i1, keep_below hb h.o0, keep_below hb h.o1, own_kept h.p5 hb, own_kept h.p8 hb, h.hB, h.h10, h.h12⟩
theorem FE.sets (h : FE w b10 b12 B i g v5 v8 rows gens W) {b o : Nat} {vs : List Value} (hb : b < w.heap.size + 3) : FE w b10 b12 B i g v5 v8 rows gens (W.setCells b o vs) := by
  have := h.hB
  have := h.h10
  have := h.h12
  exact ⟨(setcs_other (by simp; omega)).trans h.i0, (setcs_other (by simp; omega)).trans h.i1, (setcs_other (by simp; omega)).trans h.o0, (setcs_other (by simp; omega)).trans h.o1, own_setsBelow (by omega) vs o W h.p5, own_setsBelow (by omega) vs o W h.p8, h.hB, h.h10, h.h12⟩
theorem ZB.fin {u0 u1 c0 c1 : Value} (h : ZB w u0 u1 b10 b12 B i g v5 v8 v5 v8 rows gens W) (h10 : w.heap.size + 3 ≤ b10) : FE w b10 b12 B i g v5 v8 rows gens W := ⟨h.i0, h.i1, h.o0, h.o1, h.p5, h.p8, h.hB, h10, h.h12⟩
end
theorem FE.wld {w W : World} {b10 b12 B g5 c5 g8 c8 n m : Nat} {i g : Int} {rows : List RowI} {gens : List Int} (h : FE w b10 b12 B i g (.slice (some ⟨g5, 0, none⟩) n c5) (.slice (some ⟨g8, 0, none⟩) m c8) rows gens W) (hn : n = rows.length) (hm : m = gens.length) : WldNew w.heap.size W (some ⟨g5, 0, none⟩) c5 (some ⟨g8, 0, none⟩) c8 ⟨rows, gens⟩ := by
  subst hn hm
  have := h.hB
  exact ⟨⟨own_rows h.p5, own_ints h.p8⟩, own_fresh h.p5 (by omega), own_fresh h.p8 (by omega)⟩
theorem place_le (rows : List RowI) (i : Int) : placeN rows i ≤ rows.length := by
  unfold placeN
  rcases gtIx_spec (fun j => rows.getD j dR) i rows.length 0 with h | ⟨k, _, hk, h, _⟩
  · rw [h]; simp
  · rw [h, if_neg (by omega)]; simp; omega
end Go.Proofs.Ytmbjghjpofcdpaa
