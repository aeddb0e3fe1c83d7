/- The statement PartsTells, its walk where the two sets are right. -/
import Derived.Test.YtnbleebilmghcaaSSame
import Derived.Deep.RegionHeld3
import Derived.Deep.DrawnRows
import Derived.Deep.QuietTactic
import Derived.BigQuiet
import Derived.Deep.DeepCutAuto
set_option maxRecDepth 100000
set_option linter.unnecessarySimpa false
set_option linter.unusedSimpArgs false
set_option linter.unusedVariables false
namespace Go.Proofs.Ytnbleebilmghcaa
open Go.RowKit
attribute [local go_sem ↓] Go.wp_at_zero Go.wp_at_succ

set_option maxHeartbeats 1000000 in
theorem tells_wrong (a b k n : Int) (w : World) (hab : setB a = false ∨ setB b = false) :
    Calls Try.prog 3 #[.int .i64 a, .int .i64 b, .int .i64 k, .int .i64 n] w fun e w' => e = .returned (.bool true) ∧ Below w.heap.size w w' := by
  have hp : partB k = (decide (0 ≤ k) && decide (k < 8)) := by simp [partB]
  cases ha : setB a
  all_goals
    try (have hb : setB b = false := by simpa [ha] using hab)
    clear hab
    rcases (by omega : (0 ≤ k ∧ k < 8) ∨ (¬ 0 ≤ k ∧ k < 8) ∨ (0 ≤ k ∧ ¬ k < 8)) with ⟨k0, k1⟩ | ⟨k0, k1⟩ | ⟨k0, k1⟩
    all_goals
      simp only [k0, k1, decide_true, decide_false, Bool.true_and, Bool.false_and, Bool.and_false] at hp
      go_enter Try.func3, Try.ntmps3
      go_wp2_with (first
        | (go_at_call 15; refine (set_any _ _).mono ?_; rintro e w1 ⟨rfl, hw⟩; obtain rfl := hw.symm)
        | (go_at_call 16; refine (rset_any _ _).mono ?_; rintro e w1 ⟨rfl, hw⟩; obtain rfl := hw.symm)
        | (go_at_call 17; refine (part_any _ _).mono ?_; rintro e w1 ⟨rfl, hw⟩; obtain rfl := hw.symm)
        | (go_at_call 18; refine (value_any _ _).mono ?_; rintro e w1 ⟨rfl, hw⟩; obtain rfl := hw.symm)
        | (go_at_call 19; refine (rvalue_any _ _).mono ?_; rintro e w1 ⟨rfl, hw⟩; obtain rfl := hw.symm)
        | (go_at_call 20; refine (clip_any _ _).mono ?_; rintro e w1 ⟨rfl, hw⟩; obtain rfl := hw.symm)
        | (go_at_call 21; refine (rclip_any _ _).mono ?_; rintro e w1 ⟨rfl, hw⟩; obtain rfl := hw.symm))
      go_ret
      exact ⟨rfl, Below.refl _ _⟩
end Go.Proofs.Ytnbleebilmghcaa
