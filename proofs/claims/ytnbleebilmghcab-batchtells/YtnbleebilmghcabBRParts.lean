/- Contracts of the document's Set and Value. -/
import Derived.Test.YtnbleebilmghcabBParts
set_option linter.unnecessarySimpa false
set_option linter.unusedVariables false
set_option linter.unusedSimpArgs false
namespace Go.Proofs.Ytnbleebilmghcab
open Go.RowKit

set_option maxRecDepth 8000 in
set_option maxHeartbeats 400000 in
theorem rset_any (n : Int) (w : World) :
    Calls Try.prog 77 #[.int .i64 n] w fun e w' => e = .returned (.bool (setB n)) ∧ w' = w := by
  by_cases h0 : 0 ≤ n <;> by_cases h1 : n ≤ 255
  all_goals
    go_enter Try.func77, Try.ntmps77
    go_wp2
    go_ret
    exact ⟨by simp [setB, h0, h1], rfl⟩

set_option maxRecDepth 8000 in
set_option maxHeartbeats 400000 in
theorem rvalue_any (n : Int) (w : World) :
    Calls Try.prog 21 #[.int .i64 n] w fun e w' => e = .returned (.bool (valB n)) ∧ w' = w := by
  by_cases h0 : -1000000 ≤ n <;> by_cases h1 : n ≤ 1000000
  all_goals
    go_enter Try.func21, Try.ntmps21
    go_wp2
    go_ret
    exact ⟨by simp [valB, h0, h1], rfl⟩
end Go.Proofs.Ytnbleebilmghcab
