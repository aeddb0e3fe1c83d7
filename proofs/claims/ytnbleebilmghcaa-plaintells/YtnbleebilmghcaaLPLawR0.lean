/- PlainRight's memory. -/
import Derived.Test.YtnbleebilmghcaaLPLawPut
set_option linter.unusedVariables false
set_option linter.unusedSimpArgs false
set_option linter.unnecessarySimpa false
namespace Go.Proofs.Ytnbleebilmghcaa
open Go Go.RowKit

structure PR (w : World) (u0 u1 : Value) (bi bg oi og : Int) (W : World) : Prop where
  bel : Below w.heap.size w W
  sz : w.heap.size + 3 ≤ W.heap.size
  p0 : W.cell? ⟨w.heap.size, 0, none⟩ = some u0
  p1 : W.cell? ⟨w.heap.size, 1, none⟩ = some u1
  b0 : W.cell? ⟨w.heap.size + 1, 0, none⟩ = some (.int .i64 bi)
  b1 : W.cell? ⟨w.heap.size + 1, 1, none⟩ = some (.int .i64 bg)
  o0 : W.cell? ⟨w.heap.size + 1 + 1, 0, none⟩ = some (.int .i64 oi)
  o1 : W.cell? ⟨w.heap.size + 1 + 1, 1, none⟩ = some (.int .i64 og)
section
variable {w W W1 : World} {u0 u1 : Value} {bi bg oi og : Int}
theorem PR.keep (h : PR w u0 u1 bi bg oi og W) (hb : Below (w.heap.size + 3) W W1) : PR w u0 u1 bi bg oi og W1 :=
  ⟨h.bel.trans (hb.mono (by omega)), Nat.le_trans h.sz hb.size, (hb.cell (p := ⟨w.heap.size, 0, none⟩) (by simp)).trans h.p0, (hb.cell (p := ⟨w.heap.size, 1, none⟩) (by simp)).trans h.p1, (hb.cell (p := ⟨w.heap.size + 1, 0, none⟩) (by simp)).trans h.b0, (hb.cell (p := ⟨w.heap.size + 1, 1, none⟩) (by simp)).trans h.b1, (hb.cell (p := ⟨w.heap.size + 1 + 1, 0, none⟩) (by simp)).trans h.o0, (hb.cell (p := ⟨w.heap.size + 1 + 1, 1, none⟩) (by simp)).trans h.o1⟩
theorem PR.below (h : PR w u0 u1 bi bg oi og W) (hb : Below W.heap.size W W1) : PR w u0 u1 bi bg oi og W1 := h.keep (hb.mono h.sz)
end
theorem PR.start (w : World) (u0 u1 : Value) (bi bg oi og : Int) : PR w u0 u1 bi bg oi og (((w.alloc (.cells #[u0, u1] 38)).alloc (.cells #[.int .i64 bi, .int .i64 bg] 40)).alloc (.cells #[.int .i64 oi, .int .i64 og] 40)) := by
  obtain ⟨w1, h1⟩ : ∃ W, W = w.alloc (.cells #[u0, u1] 38) := ⟨_, rfl⟩
  have z1 : w1.heap.size = w.heap.size + 1 := by rw [h1]; simp
  obtain ⟨a0, a1, _, ab⟩ := new_box (W := w) (u0 := u0) (u1 := u1) (t := 38) rfl
  rw [← h1] at a0 a1 ab ⊢
  clear h1
  obtain ⟨c0, c1, _, cb⟩ := new_box (W := w1) (u0 := .int .i64 bi) (u1 := .int .i64 bg) (t := 40) z1
  obtain ⟨w2, h2⟩ : ∃ W, W = w1.alloc (.cells #[.int .i64 bi, .int .i64 bg] 40) := ⟨_, rfl⟩
  have z2 : w2.heap.size = w.heap.size + 1 + 1 := by rw [h2]; simp; omega
  rw [← h2] at c0 c1 cb ⊢
  clear h2
  obtain ⟨d0, d1, _, db⟩ := new_box (W := w2) (u0 := .int .i64 oi) (u1 := .int .i64 og) (t := 40) z2
  have b2 := ab.trans (cb.mono ab.size)
  exact ⟨b2.trans (db.mono b2.size), by simp; omega, keep_below db (keep_below cb a0), keep_below db (keep_below cb a1), keep_below db c0, keep_below db c1, d0, d1⟩

structure PX (w : World) (u0 u1 : Value) (bi bg oi og : Int) (x : Nat) (y0 y1 : Value) (W : World) : Prop extends PR w u0 u1 bi bg oi og W where
  hx : w.heap.size + 3 ≤ x
  lx : x < W.heap.size
  x0 : W.cell? ⟨x, 0, none⟩ = some y0
  x1 : W.cell? ⟨x, 1, none⟩ = some y1
  xf : ∀ i, W.frozen? ⟨x, i, none⟩ = false
section
variable {w W W1 : World} {u0 u1 y0 y1 : Value} {bi bg oi og : Int} {x : Nat}
theorem PX.below (h : PX w u0 u1 bi bg oi og x y0 y1 W) (hb : Below W.heap.size W W1) : PX w u0 u1 bi bg oi og x y0 y1 W1 :=
  ⟨h.toPR.below hb, h.hx, Nat.lt_of_lt_of_le h.lx hb.size, keep_below hb h.x0, keep_below hb h.x1, fun i => (hb.frozen (p := ⟨x, i, none⟩) h.lx).trans (h.xf i)⟩
theorem PX.there (h : PX w u0 u1 bi bg oi og x y0 y1 W) : W.there x 0 2 := fun j hj => by
  rcases (by omega : j = 0 ∨ j = 1) with rfl | rfl
  · exact ⟨by rw [Nat.zero_add, h.x0]; rfl, h.xf _⟩
  · exact ⟨by rw [Nat.zero_add, h.x1]; rfl, h.xf _⟩
theorem PX.give (h : PX w u0 u1 bi bg oi og x y0 y1 W) (a0 a1 : Value) : PX w u0 u1 bi bg oi og x a0 a1 (W.setCells x 0 [a0, a1]) := by
  have s := fun j hj => World.cell?_setCells_in x [a0, a1] 0 W (fun j hj => (h.there j hj).1) j hj
  exact ⟨h.toPR.keep (below_setCells x h.hx [a0, a1] 0 W (Below.refl _ _)), h.hx, by rw [size_setCells]; exact h.lx, s 0 (by simp), s 1 (by simp), fun i => by rw [World.frozen?_setCells]; exact h.xf i⟩
theorem PX.new (h : PR w u0 u1 bi bg oi og W) : PX w u0 u1 bi bg oi og W.heap.size (.slice none 0 0) (.slice none 0 0) (W.alloc (.cells #[.slice none 0 0, .slice none 0 0] 38)) := by
  obtain ⟨a0, a1, af, ab⟩ := new_box (W := W) (u0 := .slice none 0 0) (u1 := .slice none 0 0) (t := 38) rfl
  exact ⟨h.below ab, h.sz, by simp, a0, a1, af⟩
end
theorem WldNew.over {B : Nat} {w : World} {A : Option Addr} {cap : Nat} {G : Option Addr} {gcap : Nat} {X : Wd} (h : WldNew B w A cap G gcap X) {x : Nat} (hx : x < B) (vs : List Value) : WldAt (w.setCells x 0 vs) A cap G gcap X := by
  refine ⟨fun j hj => ?_, fun j hj => ?_⟩
  · obtain ⟨b, off, hA, hr⟩ := h.rows j hj
    have := h.fa b off hA
    exact ⟨b, off, hA, rowAt_others (by omega) hr⟩
  · obtain ⟨b, off, hG, hc⟩ := h.gens j hj
    have := h.fg b off hG
    exact ⟨b, off, hG, (setcs_other (by simp; omega)).trans hc⟩
theorem row_ptr (X : Wd) (hl : X.rows.length ≤ 60) (i g : Int) (A : Option Addr) (c : Nat) (G : Option Addr) (gc : Nat) (W : World) (hX : WldAt W A c G gc X) :
    ∃ p : Option Addr, (∀ W', Below W.heap.size W W' → Calls Try.prog 49 #[.agg #[.slice A X.rows.length c, .slice G X.gens.length gc], .agg #[.int .i64 i, .int .i64 g]] W' fun e w' => e = .returned (.pointer p) ∧ Below W'.heap.size W' w') ∧
      ((p = none ∧ findW X i g = -1) ∨ ∃ (k b o : Nat), p = some ⟨b, o, none⟩ ∧ k < X.rows.length ∧ findW X i g = (k : Int) ∧ RowAt W b o (rowOf X k)) := by
  rcases find_cases X i g with hf | ⟨k, hk, hf, _, _⟩
  · exact ⟨none, fun W' hb => row_none hf hl A c G gc W' (hX.below hb), .inl ⟨rfl, hf⟩⟩
  · obtain ⟨b, off, hA, hr⟩ := hX.rows k hk
    refine ⟨some ⟨b, off + k * 11, none⟩, fun W' hb => ?_, .inr ⟨k, b, _, rfl, hk, hf, hr⟩⟩
    refine (row_any A X.rows.length c G X.gens.length gc (fun j => X.rows.getD j dR) i g W' (by omega) (hX.below hb).rows).mono fun e w' ⟨⟨p, he, hp⟩, hb⟩ => ⟨?_, hb⟩
    have hf' : fIx (fun j => X.rows.getD j dR) i g X.rows.length 0 = (k : Int) := hf
    rcases hp with ⟨e1, _⟩ | ⟨k', b', off', _, e2, hA', rfl⟩
    · omega
    · have : k' = k := by omega
      subst this
      rw [hA] at hA'
      injection hA' with hA'
      injection hA' with h1 h2
      subst h1 h2
      exact he
end Go.Proofs.Ytnbleebilmghcaa
