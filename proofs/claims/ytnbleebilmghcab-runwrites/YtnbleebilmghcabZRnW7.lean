/- A drawn region that asks for two things, and keeps both. -/
import Derived.Test.YtnbleebilmghcabQX
set_option linter.all false
namespace Go.Proofs.Ytnbleebilmghcab
open Go Go.RowKit
structure G7 where
  p9 : Nat
  p10 : Nat
  vA : Option Addr
  vc : Nat
  vG : Option Addr
  vgc : Nat
def g7 : G7 := ⟨0, 0, none, 0, none, 0⟩
structure R7 (W5 : World) (Y : Wd) (NZ NV : List Value) (γ : G7) (L : Nat → Bool) (W : World) : Prop where
  bel : Below W5.heap.size W5 W
  wld : L 3 = true → WldAt W γ.vA γ.vc γ.vG γ.vgc Y
  n9 : L 3 = true → L 4 = true → ¬ Blk γ.vA γ.vG Y γ.p9
  n10 : L 3 = true → L 5 = true → ¬ Blk γ.vA γ.vG Y γ.p10
  b9 : L 4 = true → W5.heap.size ≤ γ.p9 ∧ Bxs γ.p9 [(if L 6 = true then NV else NZ, 34)] W
  b10 : L 5 = true → W5.heap.size ≤ γ.p10 ∧ Bxs γ.p10 [(if L 7 = true then [.slice γ.vA Y.rows.length γ.vc, .slice γ.vG Y.gens.length γ.vgc] else [.slice none 0 0, .slice none 0 0], 40)] W
  ne : L 4 = true → L 5 = true → γ.p9 ≠ γ.p10
section
variable {W5 : World} {Y : Wd} {NZ NV : List Value} {γ : G7} {L : Nat → Bool} {W W1 : World}
theorem R7.start (W5 : World) (Y : Wd) (NZ NV : List Value) : R7 W5 Y NZ NV g7 (fun _ => false) W5.drew :=
  ⟨(Below.refl _ _).drew, fun h => (by cases h), fun h => (by cases h), fun h => (by cases h), fun h => (by cases h), fun h => (by cases h), fun h => (by cases h)⟩
theorem R7.same (h : R7 W5 Y NZ NV γ L W) {i : Nat} (hi : i < 3) : R7 W5 Y NZ NV γ (upd L i) W := by
  have e : ∀ j, 3 ≤ j → upd L i j = L j := fun j hj => upd_ne (by omega)
  refine ⟨h.bel, ?_, ?_, ?_, ?_, ?_, ?_⟩
  · rw [e 3 (by omega)]; exact h.wld
  · rw [e 3 (by omega), e 4 (by omega)]; exact h.n9
  · rw [e 3 (by omega), e 5 (by omega)]; exact h.n10
  · rw [e 4 (by omega), e 6 (by omega)]; exact h.b9
  · rw [e 5 (by omega), e 7 (by omega)]; exact h.b10
  · rw [e 4 (by omega), e 5 (by omega)]; exact h.ne
theorem R7.below (h : R7 W5 Y NZ NV γ L W) (hb : Below W.heap.size W W1) : R7 W5 Y NZ NV γ L W1 :=
  ⟨h.bel.trans (hb.mono h.bel.size), fun e => (h.wld e).below hb, h.n9, h.n10, fun e => ⟨(h.b9 e).1, (h.b9 e).2.below hb⟩, fun e => ⟨(h.b10 e).1, (h.b10 e).2.below hb⟩, h.ne⟩
theorem R7.world (h : R7 W5 Y NZ NV γ L W) (h7 : L 7 = false) {A : Option Addr} {c : Nat} {G : Option Addr} {gc : Nat} (hN : WldNew W.heap.size W1 A c G gc Y) (hb : Below W.heap.size W W1) : R7 W5 Y NZ NV ⟨γ.p9, γ.p10, A, c, G, gc⟩ (upd L 3) W1 := by
  have e : ∀ j, j ≠ 3 → upd L 3 j = L j := fun j hj => upd_ne hj
  refine ⟨h.bel.trans (hb.mono h.bel.size), fun _ => hN.toWldAt, fun _ h4 hk => ?_, fun _ h5 hk => ?_, ?_, ?_, ?_⟩
  · rw [e 4 (by decide)] at h4
    have := blk_fresh hN hk
    have := (h.b9 h4).2.lt (k := 0) rfl
    simp only at *
    omega
  · rw [e 5 (by decide)] at h5
    have := blk_fresh hN hk
    have := (h.b10 h5).2.lt (k := 0) rfl
    simp only at *
    omega
  · rw [e 4 (by decide), e 6 (by decide)]; exact fun e => ⟨(h.b9 e).1, (h.b9 e).2.below hb⟩
  · rw [e 5 (by decide), e 7 (by decide), h7]
    intro e5
    have := h.b10 e5
    rw [h7] at this
    exact ⟨this.1, this.2.below hb⟩
  · rw [e 4 (by decide), e 5 (by decide)]; exact h.ne
theorem R7.make9 (h : R7 W5 Y NZ NV γ L W) (h6 : L 6 = false) : R7 W5 Y NZ NV ⟨W.heap.size, γ.p10, γ.vA, γ.vc, γ.vG, γ.vgc⟩ (upd L 4) (W.alloc (.cells NZ.toArray 34)) := by
  have e : ∀ j, j ≠ 4 → upd L 4 j = L j := fun j hj => upd_ne hj
  have hb := bel1 W (.cells NZ.toArray 34)
  refine ⟨h.bel.trans (hb.mono h.bel.size), ?_, fun h3 _ hk => ?_, ?_, fun _ => ?_, ?_, fun _ h5 => ?_⟩
  · rw [e 3 (by decide)]; exact fun e => (h.wld e).below hb
  · rw [e 3 (by decide)] at h3
    exact absurd (blk_lt (h.wld h3) hk) (by simp)
  · rw [e 3 (by decide), e 5 (by decide)]; exact h.n10
  · rw [e 6 (by decide), h6]
    exact ⟨h.bel.size, Bxs.start W [(NZ, 34)]⟩
  · rw [e 5 (by decide), e 7 (by decide)]; exact fun e => ⟨(h.b10 e).1, (h.b10 e).2.below hb⟩
  · rw [e 5 (by decide)] at h5
    have := (h.b10 h5).2.lt (k := 0) rfl
    simp only at *
    omega
theorem R7.make10 (h : R7 W5 Y NZ NV γ L W) (h7 : L 7 = false) : R7 W5 Y NZ NV ⟨γ.p9, W.heap.size, γ.vA, γ.vc, γ.vG, γ.vgc⟩ (upd L 5) (W.alloc (.cells #[.slice none 0 0, .slice none 0 0] 40)) := by
  have e : ∀ j, j ≠ 5 → upd L 5 j = L j := fun j hj => upd_ne hj
  have hb := bel1 W (.cells #[.slice none 0 0, .slice none 0 0] 40)
  refine ⟨h.bel.trans (hb.mono h.bel.size), ?_, ?_, fun h3 _ hk => ?_, ?_, fun _ => ?_, fun h4 _ => ?_⟩
  · rw [e 3 (by decide)]; exact fun e => (h.wld e).below hb
  · rw [e 3 (by decide), e 4 (by decide)]; exact h.n9
  · rw [e 3 (by decide)] at h3
    exact absurd (blk_lt (h.wld h3) hk) (by simp)
  · rw [e 4 (by decide), e 6 (by decide)]; exact fun e => ⟨(h.b9 e).1, (h.b9 e).2.below hb⟩
  · rw [e 7 (by decide), h7]
    exact ⟨h.bel.size, Bxs.start W [([.slice none 0 0, .slice none 0 0], 40)]⟩
  · rw [e 4 (by decide)] at h4
    have := (h.b9 h4).2.lt (k := 0) rfl
    simp only at *
    omega
theorem R7.put6 (h : R7 W5 Y NZ NV γ L W) (h4 : L 4 = true) (h6 : L 6 = false) (hl : NV.length = NZ.length) : R7 W5 Y NZ NV γ (upd L 6) (W.setCells γ.p9 0 NV) := by
  have e : ∀ j, j ≠ 6 → upd L 6 j = L j := fun j hj => upd_ne hj
  have hb9 := h.b9 h4
  rw [h6] at hb9
  refine ⟨below_setCells _ hb9.1 _ _ _ h.bel, ?_, ?_, ?_, fun _ => ?_, ?_, ?_⟩
  · rw [e 3 (by decide)]; exact fun h3 => wld_puts (h.wld h3) (h.n9 h3 h4)
  · rw [e 3 (by decide), e 4 (by decide)]; exact h.n9
  · rw [e 3 (by decide), e 5 (by decide)]; exact h.n10
  · rw [upd_eq]
    exact ⟨hb9.1, hb9.2.give 0 rfl NV hl⟩
  · rw [e 5 (by decide), e 7 (by decide)]
    intro h5
    have := h.ne h4 h5
    exact ⟨(h.b10 h5).1, (h.b10 h5).2.turn (by simp only [List.length_cons, List.length_nil]; omega)⟩
  · rw [e 4 (by decide), e 5 (by decide)]; exact h.ne
theorem R7.put7 (h : R7 W5 Y NZ NV γ L W) (h3 : L 3 = true) (h5 : L 5 = true) (h7 : L 7 = false) : R7 W5 Y NZ NV γ (upd L 7) (W.setCells γ.p10 0 [.slice γ.vA Y.rows.length γ.vc, .slice γ.vG Y.gens.length γ.vgc]) := by
  have e : ∀ j, j ≠ 7 → upd L 7 j = L j := fun j hj => upd_ne hj
  have hb10 := h.b10 h5
  rw [h7] at hb10
  refine ⟨below_setCells _ hb10.1 _ _ _ h.bel, ?_, ?_, ?_, ?_, fun _ => ?_, ?_⟩
  · rw [e 3 (by decide)]; exact fun h3 => wld_puts (h.wld h3) (h.n10 h3 h5)
  · rw [e 3 (by decide), e 4 (by decide)]; exact h.n9
  · rw [e 3 (by decide), e 5 (by decide)]; exact h.n10
  · rw [e 4 (by decide), e 6 (by decide)]
    intro h4
    have := h.ne h4 h5
    exact ⟨(h.b9 h4).1, (h.b9 h4).2.turn (by simp only [List.length_cons, List.length_nil]; omega)⟩
  · rw [upd_eq]
    exact ⟨hb10.1, hb10.2.give 0 rfl _ rfl⟩
  · rw [e 4 (by decide), e 5 (by decide)]; exact h.ne
end
end Go.Proofs.Ytnbleebilmghcab
