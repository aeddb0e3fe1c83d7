/- broodlaw6.more and broodlaw6.alive. -/
import Derived.Test.YtnbleebilmghcabABat6
set_option linter.unnecessarySimpa false
set_option linter.unusedVariables false
set_option linter.unusedSimpArgs false
namespace Go.Proofs.Ytnbleebilmghcab
open Go Go.RowKit
attribute [local go_sem ↓] Go.wp_at_zero Go.wp_at_succ

def actM (p : Int) : Nat → ActI := fun _ => ⟨4, p, 0, 1⟩
def sysM (p q : Int) (g : Nat) : SysI := ⟨0, q, 0, some ⟨g, 0, none⟩, 1, 1, actM p⟩

set_option maxRecDepth 8000 in
set_option maxHeartbeats 400000 in
theorem more_any (p q : Int) (w : World) (hp : (p = 0 ∧ q = 1) ∨ (p = 1 ∧ q = 2)) :
    Calls Try.prog 55 #[.int .i64 p] w fun e w' => ∃ g, e = .returned (.agg #[.int .i64 0, .int .i64 q, .int .i64 0, .slice (some ⟨g, 0, none⟩) 1 1]) ∧ ActsAt w' (some ⟨g, 0, none⟩) 1 (actM p) ∧ Below w.heap.size w w' := by
  rcases hp with ⟨rfl, rfl⟩ | ⟨rfl, rfl⟩
  · go_enter Try.func55, Try.ntmps55
    go_wp2
    refine bodyPost_ret (v := .agg #[.int .i64 0, .int .i64 1, .int .i64 0, .slice (some ⟨w.heap.size + 1, 0, none⟩) 1 1]) (by simp [results, Try.results55, go_sem]) rfl ⟨w.heap.size + 1, rfl, ?_, by go_grown⟩
    intro j hj
    obtain rfl : j = 0 := by omega
    exact ⟨_, 0, rfl, by simp [go_sem, actM], by simp [go_sem, actM], by simp [go_sem, actM], by simp [go_sem, actM]⟩
  · go_enter Try.func55, Try.ntmps55
    go_wp2
    refine bodyPost_ret (v := .agg #[.int .i64 0, .int .i64 2, .int .i64 0, .slice (some ⟨w.heap.size + 1, 0, none⟩) 1 1]) (by simp [results, Try.results55, go_sem]) rfl ⟨w.heap.size + 1, rfl, ?_, by go_grown⟩
    intro j hj
    obtain rfl : j = 0 := by omega
    exact ⟨_, 0, rfl, by simp [go_sem, actM], by simp [go_sem, actM], by simp [go_sem, actM], by simp [go_sem, actM]⟩

def three (g0 g1 g2 : Nat) : Nat → SysI := fun j => if j = 0 then sysM 0 1 g0 else if j = 1 then sysM 0 1 g1 else sysM 1 2 g2
theorem m00 : clB 1 (actM 0) 1 1 (actM 0) 1 = true := by decide +kernel
theorem m01 : clB 1 (actM 0) 1 2 (actM 1) 1 = false := by decide +kernel
theorem w0 : wrF 0 1 0 (actM 0) 1 = (0, 0) := by decide +kernel
theorem w1 : wrF 0 2 0 (actM 1) 1 = (0, 0) := by decide +kernel
theorem three_bw (g0 g1 g2 : Nat) : (bwF (three g0 g1 g2) 3).1 = 0 := by
  have h0 : sw (three g0 g1 g2 0) = (0, 0) := w0
  have h1 : sw (three g0 g1 g2 1) = (0, 0) := w0
  have h2 : sw (three g0 g1 g2 2) = (0, 0) := w1
  simp [bwF, bwTo, h0, h1, h2]
theorem three_mk (g0 g1 g2 : Nat) : mkB (clS (three g0 g1 g2)) 3 = [[0, 2], [1]] := by
  have h01 : clS (three g0 g1 g2) 0 1 = true := m00
  have h02 : clS (three g0 g1 g2) 0 2 = false := m01
  have h12 : clS (three g0 g1 g2) 1 2 = false := m01
  simp [mkB, putB, bhd, h01, h02, h12]

theorem syss3 {W : World} {b g0 g1 g2 : Nat} (h : ∀ k, k < 12 → W.cell? ⟨b, k, none⟩ = ([Value.int .i64 0, .int .i64 1, .int .i64 0, .slice (some ⟨g0, 0, none⟩) 1 1, .int .i64 0, .int .i64 1, .int .i64 0, .slice (some ⟨g1, 0, none⟩) 1 1, .int .i64 0, .int .i64 2, .int .i64 0, .slice (some ⟨g2, 0, none⟩) 1 1] : List Value)[k]?)
    (h0 : ActsAt W (some ⟨g0, 0, none⟩) 1 (actM 0)) (h1 : ActsAt W (some ⟨g1, 0, none⟩) 1 (actM 0)) (h2 : ActsAt W (some ⟨g2, 0, none⟩) 1 (actM 1)) : SyssAt W (some ⟨b, 0, none⟩) 3 (three g0 g1 g2) := by
  intro j hj
  refine ⟨b, 0, rfl, ?_⟩
  rcases (by omega : j = 0 ∨ j = 1 ∨ j = 2) with rfl | rfl | rfl
  · exact ⟨h 0 (by omega), h 1 (by omega), h 2 (by omega), h 3 (by omega), h0⟩
  · exact ⟨h 4 (by omega), h 5 (by omega), h 6 (by omega), h 7 (by omega), h1⟩
  · exact ⟨h 8 (by omega), h 9 (by omega), h 10 (by omega), h 11 (by omega), h2⟩

theorem bats2 {W : World} {B : Option Addr} (h : BatsAt W B [[0, 2], [1]]) : ∃ b off b2 off2 c2, B = some ⟨b, off, none⟩ ∧ W.cell? ⟨b, off, none⟩ = some (.slice (some ⟨b2, off2, none⟩) 2 c2) ∧ W.cell? ⟨b2, off2 + 1, none⟩ = some (.int .i64 2) := by
  obtain ⟨b, off, A, c, h0, h1, h2⟩ := h 0 (by decide)
  obtain ⟨b2, off2, h3, h4⟩ := h2 1 (by decide)
  subst h3
  exact ⟨b, off, b2, off2, c, h0, h1, h4⟩

set_option maxRecDepth 8000 in
set_option maxHeartbeats 2000000 in
theorem alive6_any (w : World) : Calls Try.prog 31 #[] w fun e w' => e = .returned (.bool true) ∧ Below w.heap.size w w' := by
  have HM0a := hide (fun W => more_any 0 1 W (.inl ⟨rfl, rfl⟩))
  have HM0b := hide (fun W => more_any 0 1 W (.inl ⟨rfl, rfl⟩))
  have HM1 := hide (fun W => more_any 1 2 W (.inr ⟨rfl, rfl⟩))
  go_enter Try.func31, Try.ntmps31
  go_wp2_with (first
    | (go_at_call_of 55 (0 : Int); refine (unhide HM0a _).mono ?_; rintro e w1 ⟨g0, rfl, ha0, hb1⟩; have HA0 := hide ha0; have HB1 := hide hb1; clear ha0 hb1 HM0a)
    | (go_at_call_of 55 (0 : Int); refine (unhide HM0b _).mono ?_; rintro e w2 ⟨g1, rfl, ha1, hb2⟩; have HA1 := hide ha1; have HB2 := hide hb2; clear ha1 hb2 HM0b)
    | (go_at_call_of 55 (1 : Int); refine (unhide HM1 _).mono ?_; rintro e w3 ⟨g2, rfl, ha2, hb3⟩; have HA2 := hide ha2; have HB3 := hide hb3; clear ha2 hb3 HM1))
  obtain ⟨W4, hW4⟩ : ∃ W, W = w3.alloc (.cells #[.int .i64 0, .int .i64 1, .int .i64 0, .slice (some ⟨g0, 0, none⟩) 1 1, .int .i64 0, .int .i64 1, .int .i64 0, .slice (some ⟨g1, 0, none⟩) 1 1, .int .i64 0, .int .i64 2, .int .i64 0, .slice (some ⟨g2, 0, none⟩) 1 1] 26) := ⟨_, rfl⟩
  have hb4 : Below w3.heap.size w3 W4 := by rw [hW4]; exact (Below.refl _ _).alloc (Nat.le_refl _) _
  have hL : SyssAt W4 (some ⟨w3.heap.size, 0, none⟩) 3 (three g0 g1 g2) := by
    refine syss3 (fun k hk => ?_) ((((unhide HA0).below (unhide HB2)).below (unhide HB3)).below hb4) (((unhide HA1).below (unhide HB3)).below hb4) ((unhide HA2).below hb4)
    rw [hW4]
    rcases (by omega : k = 0 ∨ k = 1 ∨ k = 2 ∨ k = 3 ∨ k = 4 ∨ k = 5 ∨ k = 6 ∨ k = 7 ∨ k = 8 ∨ k = 9 ∨ k = 10 ∨ k = 11) with rfl | rfl | rfl | rfl | rfl | rfl | rfl | rfl | rfl | rfl | rfl | rfl <;> simp
  have hC := make_right (some ⟨w3.heap.size, 0, none⟩) 3 3 (three g0 g1 g2) W4 hL (three_bw g0 g1 g2)
  rw [three_mk] at hC
  unfold faultV at hC
  have hbel : Below w.heap.size w W4 := by
    have h1 := unhide HB1
    have h2 := h1.trans ((unhide HB2).mono h1.size)
    have h3 := h2.trans ((unhide HB3).mono h2.size)
    exact h3.trans (hb4.mono h3.size)
  replace hC : Calls Try.prog 25 #[.slice (some ⟨w3.heap.size, 0, none⟩) 3 3] W4 fun e w' => ∃ b off c b2 off2 c2, e = .returned (.tuple #[.slice (some ⟨b, off, none⟩) 2 c, .agg #[.int .i64 0, .int .i64 0]]) ∧ w'.cell? ⟨b, off, none⟩ = some (.slice (some ⟨b2, off2, none⟩) 2 c2) ∧ w'.cell? ⟨b2, off2 + 1, none⟩ = some (.int .i64 2) ∧ BatsAt w' (some ⟨b, off, none⟩) [[0, 2], [1]] ∧ Below W4.heap.size W4 w' :=
    hC.mono fun e w' ⟨B, c, he, hB, hb⟩ => by
      obtain ⟨b, off, b2, off2, c2, rfl, h1, h2⟩ := bats2 hB
      exact ⟨b, off, c, b2, off2, c2, he, h1, h2, hB, hb⟩
  have HOR := hide (fun (W : World) (b off c : Nat) (h : BatsAt W (some ⟨b, off, none⟩) [[0, 2], [1]]) => order_any (some ⟨b, off, none⟩) [[0, 2], [1]] c W (by decide) (by intro k hk; rcases (by simpa using hk : k < 2) with h; rcases (by omega : k = 0 ∨ k = 1) with rfl | rfl <;> simp) (by intro k hk; rcases (by simpa using hk : k < 2) with h; rcases (by omega : k = 0 ∨ k = 1) with rfl | rfl <;> simp) h)
  rw [hW4] at hC
  have HC := hide hC
  have HBW := hide hbel
  have HW4 := hide hW4
  clear hC hbel hb4 hL hW4 HA0 HA1 HA2 HB1 HB2 HB3
  go_wp2_with (first
    | (go_at_call 25; refine (unhide HC).mono ?_; rintro e w5 ⟨b, off, c, b2, off2, c2, rfl, h1, h2, hB, hb5⟩; have HB := hide hB; have HB5 := hide hb5; have HL5 := hide (World.block_lt_of_cell? w5 _ h1); have hz := World.block_lt_of_cell? w5 _ h1; have hz2 := World.block_lt_of_cell? w5 _ h2; clear hB hb5 HC)
    | (go_at_call 30; refine (unhide HOR _ _ _ _ ((unhide HB).below ((Below.refl _ _).alloc (Nat.le_refl _) _))).mono ?_; rintro e w6 ⟨A, c6, rfl, _, hb6⟩; have HB6 := hide hb6; clear hb6))
  go_ret
  refine ⟨rfl, ?_⟩
  have h5 := (unhide HBW).trans (Below.mono (by rw [unhide HW4]; exact unhide HB5) (unhide HBW).size)
  have h6 := (h5.alloc h5.size (.cells #[.int .i64 0, .int .i64 0] 30))
  exact h6.trans ((unhide HB6).mono h6.size)
end Go.Proofs.Ytnbleebilmghcab
