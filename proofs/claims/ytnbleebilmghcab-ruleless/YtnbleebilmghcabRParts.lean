/- Contracts of package parts' small functions, whatever the numbers. -/
import Derived.Test.YtnbleebilmghcabRows
import Derived.Test.YtnbleebilmghcabRMath
import Derived.WalkKit
import Derived.WalkSpells
import Derived.Handy
set_option maxRecDepth 100000
set_option linter.unnecessarySimpa false
set_option linter.unusedSimpArgs false
set_option linter.unusedVariables false
namespace Go.Proofs.Ytnbleebilmghcab
open Go.RowKit

def setB (n : Int) : Bool := decide (0 ≤ n ∧ n ≤ 255)
def partB (n : Int) : Bool := decide (0 ≤ n ∧ n < 8)
def valB (n : Int) : Bool := decide (-1000000 ≤ n ∧ n ≤ 1000000)
theorem hide {p : Prop} (h : p) : Hid p := h
theorem unhide {p : Prop} (h : Hid p) : p := h

set_option maxHeartbeats 400000 in
theorem set_any (n : Int) (w : World) :
    Calls Try.prog 33 #[.int .i64 n] w fun e w' => e = .returned (.bool (setB n)) ∧ w' = w := by
  by_cases h0 : 0 ≤ n <;> by_cases h1 : n ≤ 255
  all_goals
    go_enter Try.func33, Try.ntmps33
    go_wp2
    go_ret
    exact ⟨by simp [setB, h0, h1], rfl⟩

set_option maxHeartbeats 400000 in
theorem part_any (n : Int) (w : World) :
    Calls Try.prog 80 #[.int .i64 n] w fun e w' => e = .returned (.bool (partB n)) ∧ w' = w := by
  by_cases h0 : 0 ≤ n <;> by_cases h1 : n < 8
  all_goals
    go_enter Try.func80, Try.ntmps80
    go_wp2
    go_ret
    exact ⟨by simp [partB, h0, h1], rfl⟩

set_option maxHeartbeats 400000 in
theorem value_any (n : Int) (w : World) :
    Calls Try.prog 81 #[.int .i64 n] w fun e w' => e = .returned (.bool (valB n)) ∧ w' = w := by
  by_cases h0 : -1000000 ≤ n <;> by_cases h1 : n ≤ 1000000
  all_goals
    go_enter Try.func81, Try.ntmps81
    go_wp2
    go_ret
    exact ⟨by simp [valB, h0, h1], rfl⟩

theorem bit_cases (k : Int) (h : partB k = true) : k = 0 ∨ k = 1 ∨ k = 2 ∨ k = 3 ∨ k = 4 ∨ k = 5 ∨ k = 6 ∨ k = 7 := by
  have := of_decide_eq_true h
  omega

set_option maxHeartbeats 400000 in
theorem bit_any (k : Int) (w : World) :
    Calls Try.prog 82 #[.int .i64 k] w fun e w' => e = .returned (.int .i64 (bitI k)) ∧ w' = w := by
  by_cases h : partB k = true
  · rcases bit_cases k h with rfl | rfl | rfl | rfl | rfl | rfl | rfl | rfl
    all_goals
      clear h
      go_enter Try.func82, Try.ntmps82
      go_wp2
      go_ret
      exact ⟨rfl, rfl⟩
  · have h' : partB k = false := by simpa using h
    clear h
    go_enter Try.func82, Try.ntmps82
    go_wp2_with (go_at_call 80; refine (part_any _ _).mono ?_; rintro e w' ⟨rfl, rfl⟩)
    go_ret
    exact ⟨by have := of_decide_eq_false h'; simp [bitI, this], rfl⟩

set_option maxHeartbeats 400000 in
theorem has_any (a k : Int) (w : World) :
    Calls Try.prog 60 #[.int .i64 a, .int .i64 k] w fun e w' => e = .returned (.bool (bits .and .i64 a (bitI k) != 0)) ∧ w' = w := by
  go_enter Try.func60, Try.ntmps60
  go_wp2_with (go_at_call 82; refine (bit_any _ _).mono ?_; rintro e w' ⟨rfl, rfl⟩)
  go_ret
  exact ⟨rfl, rfl⟩

set_option maxHeartbeats 400000 in
theorem with_any (a k : Int) (w : World) :
    Calls Try.prog 58 #[.int .i64 a, .int .i64 k] w fun e w' => e = .returned (.int .i64 (bits .or .i64 a (bitI k))) ∧ w' = w := by
  go_enter Try.func58, Try.ntmps58
  go_wp2_with (go_at_call 82; refine (bit_any _ _).mono ?_; rintro e w' ⟨rfl, rfl⟩)
  go_ret
  exact ⟨rfl, rfl⟩

set_option maxHeartbeats 400000 in
theorem without_any (a k : Int) (w : World) :
    Calls Try.prog 59 #[.int .i64 a, .int .i64 k] w fun e w' => e = .returned (.int .i64 (bits .andNot .i64 a (bitI k))) ∧ w' = w := by
  go_enter Try.func59, Try.ntmps59
  go_wp2_with (go_at_call 82; refine (bit_any _ _).mono ?_; rintro e w' ⟨rfl, rfl⟩)
  go_ret
  exact ⟨rfl, rfl⟩
end Go.Proofs.Ytnbleebilmghcab
