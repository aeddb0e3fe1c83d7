/- batch.Make, whatever the systems. -/
import Derived.Test.YtnbleebilmghcabBBat3
set_option linter.unnecessarySimpa false
set_option linter.unusedVariables false
set_option linter.unusedSimpArgs false
namespace Go.Proofs.Ytnbleebilmghcab
open Go Go.RowKit
attribute [local go_sem ↓] Go.wp_at_zero Go.wp_at_succ

theorem bwTo_zero (S : Nat → SysI) : ∀ m j, (bwTo S m j).1 = 0 → (∀ i, i < m → (sw (S (j + i))).1 = 0) ∧ bwTo S m j = (0, 0)
  | 0, _, _ => ⟨fun _ h => by omega, rfl⟩
  | m + 1, j, h => by
    unfold bwTo at h ⊢
    by_cases h1 : (sw (S j)).1 = 0
    · rw [if_pos h1] at h ⊢
      obtain ⟨h2, h3⟩ := bwTo_zero S m (j + 1) h
      refine ⟨fun i hi => ?_, h3⟩
      cases i with
      | zero => exact h1
      | succ i => rw [show j + (i + 1) = j + 1 + i by omega]; exact h2 i (by omega)
    · rw [if_neg h1] at h; exact absurd h h1
theorem bw_right (S : Nat → SysI) (n : Nat) (h : (bwF S n).1 = 0) : n ≤ 12 ∧ (∀ j, j < n → (sw (S j)).1 = 0) ∧ bwF S n = (0, 0) := by
  unfold bwF at h ⊢
  by_cases h1 : 12 < n
  · rw [if_pos h1] at h; exact absurd h (by decide)
  · rw [if_neg h1] at h ⊢
    obtain ⟨h2, h3⟩ := bwTo_zero S n 0 h
    exact ⟨by omega, fun j hj => by have := h2 j hj; rwa [Nat.zero_add] at this, h3⟩

structure MK (w : World) (L : Option Addr) (n cap : Nat) (W : World) : Prop where
  bel : Below w.heap.size w W
  sz : w.heap.size + 2 ≤ W.heap.size
  b1 : W.cell? ⟨w.heap.size, 0, none⟩ = some (.slice L n cap)
  t0 : W.cell? ⟨w.heap.size + 1, 0, none⟩ = some (.int .i64 0)
  t1 : W.cell? ⟨w.heap.size + 1, 1, none⟩ = some (.int .i64 0)
  f : ∀ i, W.frozen? ⟨w.heap.size + 1, i, none⟩ = false
theorem MK.keep {w W W1 : World} {L : Option Addr} {n cap : Nat} (h : MK w L n cap W) (hb : Below (w.heap.size + 2) W W1) : MK w L n cap W1 :=
  ⟨h.bel.trans (hb.mono (by omega)), Nat.le_trans h.sz hb.size, (hb.cell (p := ⟨w.heap.size, 0, none⟩) (by simp)).trans h.b1, (hb.cell (p := ⟨w.heap.size + 1, 0, none⟩) (by simp)).trans h.t0, (hb.cell (p := ⟨w.heap.size + 1, 1, none⟩) (by simp)).trans h.t1, fun i => (hb.frozen (p := ⟨w.heap.size + 1, i, none⟩) (by simp)).trans (h.f i)⟩
theorem MK.below {w W W1 : World} {L : Option Addr} {n cap : Nat} (h : MK w L n cap W) (hb : Below W.heap.size W W1) : MK w L n cap W1 := h.keep (hb.mono h.sz)
theorem MK.start (w : World) (L : Option Addr) (n cap : Nat) : MK w L n cap ((w.alloc (.cells #[.slice L n cap] 61)).alloc (.cells #[.int .i64 0, .int .i64 0] 30)) := by
  obtain ⟨w1, h1⟩ : ∃ W, W = w.alloc (.cells #[.slice L n cap] 61) := ⟨_, rfl⟩
  have z1 : w1.heap.size = w.heap.size + 1 := by rw [h1]; simp
  have b1 : Below w.heap.size w w1 := by rw [h1]; exact (Below.refl _ _).alloc (Nat.le_refl _) _
  have e0 : w1.cell? ⟨w.heap.size, 0, none⟩ = some (.slice L n cap) := by rw [h1]; simp
  rw [← h1]
  clear h1
  have b2 : Below w1.heap.size w1 (w1.alloc (.cells #[.int .i64 0, .int .i64 0] 30)) := (Below.refl _ _).alloc (Nat.le_refl _) _
  refine ⟨b1.trans (b2.mono b1.size), by simp; omega, keep_below b2 e0, ?_, ?_, fun i => ?_⟩ <;> rw [← z1] <;> simp [go_sem]

set_option maxRecDepth 8000 in
set_option maxHeartbeats 1000000 in
theorem make_wrong (L : Option Addr) (n cap : Nat) (S : Nat → SysI) (w : World) (hL : SyssAt w L n S) (hw : (bwF S n).1 ≠ 0) :
    Calls Try.prog 25 #[.slice L n cap] w fun e w' => e = .returned (.tuple #[.slice none 0 0, faultV (bwF S n)]) ∧ Below w.heap.size w w' := by
  have hM := MK.start w L n cap
  have hC := bwrong_any L n cap S _ (hL.below hM.bel)
  have HM := hide hM
  clear hM hL
  generalize bwF S n = x at *
  obtain ⟨ej, aj⟩ := x
  unfold faultV at *
  have HC := hide hC
  clear hC
  dsimp only at *
  go_enter Try.func25, Try.ntmps25
  go_wp2_with (first
    | (go_at_call 27; refine (unhide HC).mono ?_; rintro e w5 ⟨rfl, hb5⟩; have hM5 := (unhide HM).below hb5; have hM6 := hM5.below ((Below.refl _ _).alloc (Nat.le_refl _) (.cells #[.int .i64 ej, .int .i64 aj] 30)); have t0 := hM6.t0; have t1 := hM6.t1; have f0 := hM6.f 0; have f1 := hM6.f 1; have HM6 := hide hM6; clear hb5 hM5 hM6))
  go_region
  all_goals (try go_wp2)
  all_goals
    refine bodyPost_ret (v := .tuple #[.slice none 0 0, .agg #[.int .i64 ej, .int .i64 aj]]) (by simp [results, Try.results25, go_sem, t0, t1]) rfl ⟨rfl, ?_⟩
    exact below_setCells (w.heap.size + 1) (by omega) [.int .i64 ej, .int .i64 aj] 0 _ (bel_drewN (unhide HM6).bel 1)
end Go.Proofs.Ytnbleebilmghcab
