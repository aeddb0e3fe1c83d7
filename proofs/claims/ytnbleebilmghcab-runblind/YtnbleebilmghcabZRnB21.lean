/- Two drawn regions of the law RunBlind: two worlds asked for and kept; two rows looked up and kept. -/
import Derived.Test.YtnbleebilmghcabQX
set_option linter.all false
namespace Go.Proofs.Ytnbleebilmghcab
open Go Go.RowKit
structure G21 where
  p : Nat
  q : Nat
  A : Option Addr
  c : Nat
  G : Option Addr
  gc : Nat
  B : Option Addr
  d : Nat
  H : Option Addr
  hd : Nat
def g21 : G21 := ⟨0, 0, none, 0, none, 0, none, 0, none, 0⟩
def slP (P : Wd) (A : Option Addr) (c : Nat) (G : Option Addr) (gc : Nat) : List Value := [.slice A P.rows.length c, .slice G P.gens.length gc]
structure R21 (W5 : World) (P Q : Wd) (γ : G21) (L : Nat → Bool) (W : World) : Prop where
  bel : Below W5.heap.size W5 W
  w1 : L 1 = true → WldAt W γ.A γ.c γ.G γ.gc P
  w2 : L 3 = true → WldAt W γ.B γ.d γ.H γ.hd Q
  n1p : L 1 = true → L 4 = true → ¬ Blk γ.A γ.G P γ.p
  n1q : L 1 = true → L 5 = true → ¬ Blk γ.A γ.G P γ.q
  n2p : L 3 = true → L 4 = true → ¬ Blk γ.B γ.H Q γ.p
  n2q : L 3 = true → L 5 = true → ¬ Blk γ.B γ.H Q γ.q
  bp : L 4 = true → W5.heap.size ≤ γ.p ∧ Bxs γ.p [(if L 6 = true then slP P γ.A γ.c γ.G γ.gc else [.slice none 0 0, .slice none 0 0], 40)] W
  bq : L 5 = true → W5.heap.size ≤ γ.q ∧ Bxs γ.q [(if L 7 = true then slP Q γ.B γ.d γ.H γ.hd else [.slice none 0 0, .slice none 0 0], 40)] W
  ne : L 4 = true → L 5 = true → γ.p ≠ γ.q
section
variable {W5 : World} {P Q : Wd} {γ : G21} {L : Nat → Bool} {W W1 : World}
theorem R21.start (W5 : World) (P Q : Wd) : R21 W5 P Q g21 (fun _ => false) W5.drew :=
  ⟨(Below.refl _ _).drew, fun h => (by cases h), fun h => (by cases h), fun h => (by cases h), fun h => (by cases h), fun h => (by cases h), fun h => (by cases h), fun h => (by cases h), fun h => (by cases h), fun h => (by cases h)⟩
theorem R21.congr {L' : Nat → Bool} (h : R21 W5 P Q γ L W) (e : ∀ j, j = 1 ∨ 3 ≤ j → L' j = L j) : R21 W5 P Q γ L' W := by
  have e1 := e 1 (by omega); have e3 := e 3 (by omega); have e4 := e 4 (by omega); have e5 := e 5 (by omega); have e6 := e 6 (by omega); have e7 := e 7 (by omega)
  refine ⟨h.bel, ?_, ?_, ?_, ?_, ?_, ?_, ?_, ?_, ?_⟩
  · rw [e1]; exact h.w1
  · rw [e3]; exact h.w2
  · rw [e1, e4]; exact h.n1p
  · rw [e1, e5]; exact h.n1q
  · rw [e3, e4]; exact h.n2p
  · rw [e3, e5]; exact h.n2q
  · rw [e4, e6]; exact h.bp
  · rw [e5, e7]; exact h.bq
  · rw [e4, e5]; exact h.ne
theorem R21.same (h : R21 W5 P Q γ L W) {i : Nat} (hi : i = 0 ∨ i = 2) : R21 W5 P Q γ (upd L i) W := h.congr fun j hj => upd_ne (by omega)
theorem R21.world1 (h : R21 W5 P Q γ L W) (h6 : L 6 = false) {A : Option Addr} {c : Nat} {G : Option Addr} {gc : Nat} (hN : WldNew W.heap.size W1 A c G gc P) (hb : Below W.heap.size W W1) : R21 W5 P Q ⟨γ.p, γ.q, A, c, G, gc, γ.B, γ.d, γ.H, γ.hd⟩ (upd L 1) W1 := by
  have e : ∀ j, j ≠ 1 → upd L 1 j = L j := fun j hj => upd_ne hj
  refine ⟨h.bel.trans (hb.mono h.bel.size), fun _ => hN.toWldAt, ?_, fun _ h4 hk => ?_, fun _ h5 hk => ?_, ?_, ?_, ?_, ?_, ?_⟩
  · rw [e 3 (by decide)]; exact fun e => (h.w2 e).below hb
  · rw [e 4 (by decide)] at h4
    have := blk_fresh hN hk
    have := (h.bp h4).2.lt (k := 0) rfl
    simp only at *
    omega
  · rw [e 5 (by decide)] at h5
    have := blk_fresh hN hk
    have := (h.bq h5).2.lt (k := 0) rfl
    simp only at *
    omega
  · rw [e 3 (by decide), e 4 (by decide)]; exact h.n2p
  · rw [e 3 (by decide), e 5 (by decide)]; exact h.n2q
  · rw [e 4 (by decide), e 6 (by decide), h6]
    intro e4
    have := h.bp e4
    rw [h6] at this
    exact ⟨this.1, this.2.below hb⟩
  · rw [e 5 (by decide), e 7 (by decide)]; exact fun e => ⟨(h.bq e).1, (h.bq e).2.below hb⟩
  · rw [e 4 (by decide), e 5 (by decide)]; exact h.ne
theorem R21.world2 (h : R21 W5 P Q γ L W) (h7 : L 7 = false) {A : Option Addr} {c : Nat} {G : Option Addr} {gc : Nat} (hN : WldNew W.heap.size W1 A c G gc Q) (hb : Below W.heap.size W W1) : R21 W5 P Q ⟨γ.p, γ.q, γ.A, γ.c, γ.G, γ.gc, A, c, G, gc⟩ (upd L 3) W1 := by
  have e : ∀ j, j ≠ 3 → upd L 3 j = L j := fun j hj => upd_ne hj
  refine ⟨h.bel.trans (hb.mono h.bel.size), ?_, fun _ => hN.toWldAt, ?_, ?_, fun _ h4 hk => ?_, fun _ h5 hk => ?_, ?_, ?_, ?_⟩
  · rw [e 1 (by decide)]; exact fun e => (h.w1 e).below hb
  · rw [e 1 (by decide), e 4 (by decide)]; exact h.n1p
  · rw [e 1 (by decide), e 5 (by decide)]; exact h.n1q
  · rw [e 4 (by decide)] at h4
    have := blk_fresh hN hk
    have := (h.bp h4).2.lt (k := 0) rfl
    simp only at *
    omega
  · rw [e 5 (by decide)] at h5
    have := blk_fresh hN hk
    have := (h.bq h5).2.lt (k := 0) rfl
    simp only at *
    omega
  · rw [e 4 (by decide), e 6 (by decide)]; exact fun e => ⟨(h.bp e).1, (h.bp e).2.below hb⟩
  · rw [e 5 (by decide), e 7 (by decide), h7]
    intro e5
    have := h.bq e5
    rw [h7] at this
    exact ⟨this.1, this.2.below hb⟩
  · rw [e 4 (by decide), e 5 (by decide)]; exact h.ne
theorem R21.makep (h : R21 W5 P Q γ L W) (h6 : L 6 = false) : R21 W5 P Q ⟨W.heap.size, γ.q, γ.A, γ.c, γ.G, γ.gc, γ.B, γ.d, γ.H, γ.hd⟩ (upd L 4) (W.alloc (.cells #[.slice none 0 0, .slice none 0 0] 40)) := by
  have e : ∀ j, j ≠ 4 → upd L 4 j = L j := fun j hj => upd_ne hj
  have hb := bel1 W (.cells #[.slice none 0 0, .slice none 0 0] 40)
  refine ⟨h.bel.trans (hb.mono h.bel.size), ?_, ?_, fun h1 _ hk => ?_, ?_, fun h3 _ hk => ?_, ?_, fun _ => ?_, ?_, fun _ h5 => ?_⟩
  · rw [e 1 (by decide)]; exact fun e => (h.w1 e).below hb
  · rw [e 3 (by decide)]; exact fun e => (h.w2 e).below hb
  · rw [e 1 (by decide)] at h1
    exact absurd (blk_lt (h.w1 h1) hk) (by simp)
  · rw [e 1 (by decide), e 5 (by decide)]; exact h.n1q
  · rw [e 3 (by decide)] at h3
    exact absurd (blk_lt (h.w2 h3) hk) (by simp)
  · rw [e 3 (by decide), e 5 (by decide)]; exact h.n2q
  · rw [e 6 (by decide), h6]
    exact ⟨h.bel.size, Bxs.start W [([.slice none 0 0, .slice none 0 0], 40)]⟩
  · rw [e 5 (by decide), e 7 (by decide)]; exact fun e => ⟨(h.bq e).1, (h.bq e).2.below hb⟩
  · rw [e 5 (by decide)] at h5
    have := (h.bq h5).2.lt (k := 0) rfl
    simp only at *
    omega
theorem R21.makeq (h : R21 W5 P Q γ L W) (h7 : L 7 = false) : R21 W5 P Q ⟨γ.p, W.heap.size, γ.A, γ.c, γ.G, γ.gc, γ.B, γ.d, γ.H, γ.hd⟩ (upd L 5) (W.alloc (.cells #[.slice none 0 0, .slice none 0 0] 40)) := by
  have e : ∀ j, j ≠ 5 → upd L 5 j = L j := fun j hj => upd_ne hj
  have hb := bel1 W (.cells #[.slice none 0 0, .slice none 0 0] 40)
  refine ⟨h.bel.trans (hb.mono h.bel.size), ?_, ?_, ?_, fun h1 _ hk => ?_, ?_, fun h3 _ hk => ?_, ?_, fun _ => ?_, fun h4 _ => ?_⟩
  · rw [e 1 (by decide)]; exact fun e => (h.w1 e).below hb
  · rw [e 3 (by decide)]; exact fun e => (h.w2 e).below hb
  · rw [e 1 (by decide), e 4 (by decide)]; exact h.n1p
  · rw [e 1 (by decide)] at h1
    exact absurd (blk_lt (h.w1 h1) hk) (by simp)
  · rw [e 3 (by decide), e 4 (by decide)]; exact h.n2p
  · rw [e 3 (by decide)] at h3
    exact absurd (blk_lt (h.w2 h3) hk) (by simp)
  · rw [e 4 (by decide), e 6 (by decide)]; exact fun e => ⟨(h.bp e).1, (h.bp e).2.below hb⟩
  · rw [e 7 (by decide), h7]
    exact ⟨h.bel.size, Bxs.start W [([.slice none 0 0, .slice none 0 0], 40)]⟩
  · rw [e 4 (by decide)] at h4
    have := (h.bp h4).2.lt (k := 0) rfl
    simp only at *
    omega
theorem R21.put6 (h : R21 W5 P Q γ L W) (h1 : L 1 = true) (h4 : L 4 = true) (h6 : L 6 = false) : R21 W5 P Q γ (upd L 6) (W.setCells γ.p 0 (slP P γ.A γ.c γ.G γ.gc)) := by
  have e : ∀ j, j ≠ 6 → upd L 6 j = L j := fun j hj => upd_ne hj
  have hbp := h.bp h4
  rw [h6] at hbp
  refine ⟨below_setCells _ hbp.1 _ _ _ h.bel, ?_, ?_, ?_, ?_, ?_, ?_, fun _ => ?_, ?_, ?_⟩
  · rw [e 1 (by decide)]; exact fun h1 => wld_puts (h.w1 h1) (h.n1p h1 h4)
  · rw [e 3 (by decide)]; exact fun h3 => wld_puts (h.w2 h3) (h.n2p h3 h4)
  · rw [e 1 (by decide), e 4 (by decide)]; exact h.n1p
  · rw [e 1 (by decide), e 5 (by decide)]; exact h.n1q
  · rw [e 3 (by decide), e 4 (by decide)]; exact h.n2p
  · rw [e 3 (by decide), e 5 (by decide)]; exact h.n2q
  · rw [upd_eq]
    exact ⟨hbp.1, hbp.2.give 0 rfl _ rfl⟩
  · rw [e 5 (by decide), e 7 (by decide)]
    intro h5
    have := h.ne h4 h5
    exact ⟨(h.bq h5).1, (h.bq h5).2.turn (by simp only [List.length_cons, List.length_nil]; omega)⟩
  · rw [e 4 (by decide), e 5 (by decide)]; exact h.ne
theorem R21.put7 (h : R21 W5 P Q γ L W) (h3 : L 3 = true) (h5 : L 5 = true) (h7 : L 7 = false) : R21 W5 P Q γ (upd L 7) (W.setCells γ.q 0 (slP Q γ.B γ.d γ.H γ.hd)) := by
  have e : ∀ j, j ≠ 7 → upd L 7 j = L j := fun j hj => upd_ne hj
  have hbq := h.bq h5
  rw [h7] at hbq
  refine ⟨below_setCells _ hbq.1 _ _ _ h.bel, ?_, ?_, ?_, ?_, ?_, ?_, ?_, fun _ => ?_, ?_⟩
  · rw [e 1 (by decide)]; exact fun h1 => wld_puts (h.w1 h1) (h.n1q h1 h5)
  · rw [e 3 (by decide)]; exact fun h3 => wld_puts (h.w2 h3) (h.n2q h3 h5)
  · rw [e 1 (by decide), e 4 (by decide)]; exact h.n1p
  · rw [e 1 (by decide), e 5 (by decide)]; exact h.n1q
  · rw [e 3 (by decide), e 4 (by decide)]; exact h.n2p
  · rw [e 3 (by decide), e 5 (by decide)]; exact h.n2q
  · rw [e 4 (by decide), e 6 (by decide)]
    intro h4
    have := h.ne h4 h5
    exact ⟨(h.bp h4).1, (h.bp h4).2.turn (by simp only [List.length_cons, List.length_nil]; omega)⟩
  · rw [upd_eq]
    exact ⟨hbq.1, hbq.2.give 0 rfl _ rfl⟩
  · rw [e 4 (by decide), e 5 (by decide)]; exact h.ne
end
structure R27 (W5 : World) (y z : RowI) (γ : Nat × Nat) (L : Nat → Bool) (W : World) : Prop where
  bel : Below W5.heap.size W5 W
  bp : L 10 = true → W5.heap.size ≤ γ.1 ∧ Bxs γ.1 [(if L 12 = true then rowCells y else rowCells dR, 53)] W
  bq : L 11 = true → W5.heap.size ≤ γ.2 ∧ Bxs γ.2 [(if L 13 = true then rowCells z else rowCells dR, 53)] W
  ne : L 10 = true → L 11 = true → γ.1 ≠ γ.2
section
variable {W5 : World} {y z : RowI} {γ : Nat × Nat} {L : Nat → Bool} {W W1 : World}
theorem R27.start (W5 : World) (y z : RowI) : R27 W5 y z (0, 0) (fun _ => false) W5.drew := ⟨(Below.refl _ _).drew, fun h => (by cases h), fun h => (by cases h), fun h => (by cases h)⟩
theorem R27.same (h : R27 W5 y z γ L W) {i : Nat} (hi : i < 10) : R27 W5 y z γ (upd L i) W := by
  have e : ∀ j, 10 ≤ j → upd L i j = L j := fun j hj => upd_ne (by omega)
  refine ⟨h.bel, ?_, ?_, ?_⟩
  · rw [e 10 (by omega), e 12 (by omega)]; exact h.bp
  · rw [e 11 (by omega), e 13 (by omega)]; exact h.bq
  · rw [e 10 (by omega), e 11 (by omega)]; exact h.ne
theorem R27.makep (h : R27 W5 y z γ L W) (h12 : L 12 = false) : R27 W5 y z (W.heap.size, γ.2) (upd L 10) (W.alloc (.cells (rowCells dR).toArray 53)) := by
  have e : ∀ j, j ≠ 10 → upd L 10 j = L j := fun j hj => upd_ne hj
  have hb := bel1 W (.cells (rowCells dR).toArray 53)
  refine ⟨h.bel.trans (hb.mono h.bel.size), fun _ => ?_, ?_, fun _ h5 => ?_⟩
  · rw [e 12 (by decide), h12]; exact ⟨h.bel.size, Bxs.start W [(rowCells dR, 53)]⟩
  · rw [e 11 (by decide), e 13 (by decide)]; exact fun e => ⟨(h.bq e).1, (h.bq e).2.below hb⟩
  · rw [e 11 (by decide)] at h5
    have := (h.bq h5).2.lt (k := 0) rfl
    simp only at *
    omega
theorem R27.makeq (h : R27 W5 y z γ L W) (h13 : L 13 = false) : R27 W5 y z (γ.1, W.heap.size) (upd L 11) (W.alloc (.cells (rowCells dR).toArray 53)) := by
  have e : ∀ j, j ≠ 11 → upd L 11 j = L j := fun j hj => upd_ne hj
  have hb := bel1 W (.cells (rowCells dR).toArray 53)
  refine ⟨h.bel.trans (hb.mono h.bel.size), ?_, fun _ => ?_, fun h4 _ => ?_⟩
  · rw [e 10 (by decide), e 12 (by decide)]; exact fun e => ⟨(h.bp e).1, (h.bp e).2.below hb⟩
  · rw [e 13 (by decide), h13]; exact ⟨h.bel.size, Bxs.start W [(rowCells dR, 53)]⟩
  · rw [e 10 (by decide)] at h4
    have := (h.bp h4).2.lt (k := 0) rfl
    simp only at *
    omega
theorem R27.put12 (h : R27 W5 y z γ L W) (h4 : L 10 = true) (h6 : L 12 = false) : R27 W5 y z γ (upd L 12) (W.setCells γ.1 0 (rowCells y)) := by
  have e : ∀ j, j ≠ 12 → upd L 12 j = L j := fun j hj => upd_ne hj
  have hbp := h.bp h4
  rw [h6] at hbp
  refine ⟨below_setCells _ hbp.1 _ _ _ h.bel, fun _ => ?_, ?_, ?_⟩
  · rw [upd_eq]; exact ⟨hbp.1, hbp.2.give 0 rfl _ rfl⟩
  · rw [e 11 (by decide), e 13 (by decide)]
    intro h5
    have := h.ne h4 h5
    exact ⟨(h.bq h5).1, (h.bq h5).2.turn (by simp only [List.length_cons, List.length_nil]; omega)⟩
  · rw [e 10 (by decide), e 11 (by decide)]; exact h.ne
theorem R27.put13 (h : R27 W5 y z γ L W) (h5 : L 11 = true) (h7 : L 13 = false) : R27 W5 y z γ (upd L 13) (W.setCells γ.2 0 (rowCells z)) := by
  have e : ∀ j, j ≠ 13 → upd L 13 j = L j := fun j hj => upd_ne hj
  have hbq := h.bq h5
  rw [h7] at hbq
  refine ⟨below_setCells _ hbq.1 _ _ _ h.bel, ?_, fun _ => ?_, ?_⟩
  · rw [e 10 (by decide), e 12 (by decide)]
    intro h4
    have := h.ne h4 h5
    exact ⟨(h.bp h4).1, (h.bp h4).2.turn (by simp only [List.length_cons, List.length_nil]; omega)⟩
  · rw [upd_eq]; exact ⟨hbq.1, hbq.2.give 0 rfl _ rfl⟩
  · rw [e 10 (by decide), e 11 (by decide)]; exact h.ne
end
end Go.Proofs.Ytnbleebilmghcab
