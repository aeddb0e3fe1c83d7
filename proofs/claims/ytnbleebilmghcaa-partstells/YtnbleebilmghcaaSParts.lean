/- Contracts of package parts' small functions and of their counterparts in the document's answer, whatever the numbers. -/
import Derived.Test.YtnbleebilmghcaaRows
import Derived.Test.YtnbleebilmghcaaSMath
import Derived.WalkKit
import Derived.WalkSpells
import Derived.Handy
set_option maxRecDepth 100000
set_option linter.unnecessarySimpa false
set_option linter.unusedSimpArgs false
set_option linter.unusedVariables false
namespace Go.Proofs.Ytnbleebilmghcaa
open Go.RowKit

def setB (n : Int) : Bool := decide (0 ≤ n ∧ n ≤ 255)
def partB (n : Int) : Bool := decide (0 ≤ n ∧ n < 8)
def valB (n : Int) : Bool := decide (-1000000 ≤ n ∧ n ≤ 1000000)
def clipI (n : Int) : Int := if n < -1000000 then -1000000 else if 1000000 < n then 1000000 else n

set_option maxHeartbeats 400000 in
theorem set_any (n : Int) (w : World) :
    Calls Try.prog 15 #[.int .i64 n] w fun e w' => e = .returned (.bool (setB n)) ∧ w' = w := by
  by_cases h0 : 0 ≤ n <;> by_cases h1 : n ≤ 255
  all_goals
    go_enter Try.func15, Try.ntmps15
    go_wp2
    go_ret
    exact ⟨by simp [setB, h0, h1], rfl⟩

set_option maxHeartbeats 400000 in
theorem rset_any (n : Int) (w : World) :
    Calls Try.prog 16 #[.int .i64 n] w fun e w' => e = .returned (.bool (setB n)) ∧ w' = w := by
  by_cases h0 : 0 ≤ n <;> by_cases h1 : n ≤ 255
  all_goals
    go_enter Try.func16, Try.ntmps16
    go_wp2
    go_ret
    exact ⟨by simp [setB, h0, h1], rfl⟩

set_option maxHeartbeats 400000 in
theorem part_any (n : Int) (w : World) :
    Calls Try.prog 17 #[.int .i64 n] w fun e w' => e = .returned (.bool (partB n)) ∧ w' = w := by
  by_cases h0 : 0 ≤ n <;> by_cases h1 : n < 8
  all_goals
    go_enter Try.func17, Try.ntmps17
    go_wp2
    go_ret
    exact ⟨by simp [partB, h0, h1], rfl⟩

set_option maxHeartbeats 400000 in
theorem value_any (n : Int) (w : World) :
    Calls Try.prog 18 #[.int .i64 n] w fun e w' => e = .returned (.bool (valB n)) ∧ w' = w := by
  by_cases h0 : -1000000 ≤ n <;> by_cases h1 : n ≤ 1000000
  all_goals
    go_enter Try.func18, Try.ntmps18
    go_wp2
    go_ret
    exact ⟨by simp [valB, h0, h1], rfl⟩

set_option maxHeartbeats 400000 in
theorem rvalue_any (n : Int) (w : World) :
    Calls Try.prog 19 #[.int .i64 n] w fun e w' => e = .returned (.bool (valB n)) ∧ w' = w := by
  by_cases h0 : -1000000 ≤ n <;> by_cases h1 : n ≤ 1000000
  all_goals
    go_enter Try.func19, Try.ntmps19
    go_wp2
    go_ret
    exact ⟨by simp [valB, h0, h1], rfl⟩

set_option maxHeartbeats 400000 in
theorem clip_any (n : Int) (w : World) :
    Calls Try.prog 20 #[.int .i64 n] w fun e w' => e = .returned (.int .i64 (clipI n)) ∧ w' = w := by
  by_cases h0 : n < -1000000 <;> by_cases h1 : 1000000 < n
  · omega
  all_goals
    go_enter Try.func20, Try.ntmps20
    go_wp2
    go_ret
    exact ⟨by unfold clipI; (repeat' split) <;> first | rfl | omega, rfl⟩

set_option maxHeartbeats 400000 in
theorem rclip_any (n : Int) (w : World) :
    Calls Try.prog 21 #[.int .i64 n] w fun e w' => e = .returned (.int .i64 (clipI n)) ∧ w' = w := by
  by_cases h0 : n < -1000000 <;> by_cases h1 : 1000000 < n
  · omega
  all_goals
    go_enter Try.func21, Try.ntmps21
    go_wp2
    go_ret
    exact ⟨by unfold clipI; (repeat' split) <;> first | rfl | omega, rfl⟩

theorem bit_cases (k : Int) (h : partB k = true) : k = 0 ∨ k = 1 ∨ k = 2 ∨ k = 3 ∨ k = 4 ∨ k = 5 ∨ k = 6 ∨ k = 7 := by
  have := of_decide_eq_true h
  omega

set_option maxHeartbeats 400000 in
theorem bit_any (k : Int) (w : World) :
    Calls Try.prog 78 #[.int .i64 k] w fun e w' => e = .returned (.int .i64 (bitI k)) ∧ w' = w := by
  by_cases h : partB k = true
  · rcases bit_cases k h with rfl | rfl | rfl | rfl | rfl | rfl | rfl | rfl
    all_goals
      clear h
      go_enter Try.func78, Try.ntmps78
      go_wp2
      go_ret
      exact ⟨rfl, rfl⟩
  · have h' : partB k = false := by simpa using h
    clear h
    go_enter Try.func78, Try.ntmps78
    go_wp2_with (go_at_call 17; refine (part_any _ _).mono ?_; rintro e w' ⟨rfl, rfl⟩)
    go_ret
    exact ⟨by have := of_decide_eq_false h'; simp [bitI, this], rfl⟩

def meetsB (a n h : Int) : Bool := bits .andNot .i64 a h == 0 && bits .and .i64 n h == 0
set_option maxHeartbeats 400000 in
theorem meets_any (a n h : Int) (w : World) :
    Calls Try.prog 31 #[.agg #[.int .i64 a, .int .i64 n], .int .i64 h] w fun e w' => e = .returned (.bool (meetsB a n h)) ∧ w' = w.alloc (.cells #[.int .i64 a, .int .i64 n] 32) := by
  go_enter Try.func31, Try.ntmps31
  go_wp2
  all_goals
    go_ret
    exact ⟨by simp [meetsB, *], rfl⟩

set_option maxHeartbeats 400000 in
theorem has_any (a k : Int) (w : World) :
    Calls Try.prog 25 #[.int .i64 a, .int .i64 k] w fun e w' => e = .returned (.bool (bits .and .i64 a (bitI k) != 0)) ∧ w' = w := by
  go_enter Try.func25, Try.ntmps25
  go_wp2_with (go_at_call 78; refine (bit_any _ _).mono ?_; rintro e w' ⟨rfl, rfl⟩)
  go_ret
  exact ⟨rfl, rfl⟩

set_option maxHeartbeats 400000 in
theorem with_any (a k : Int) (w : World) :
    Calls Try.prog 27 #[.int .i64 a, .int .i64 k] w fun e w' => e = .returned (.int .i64 (bits .or .i64 a (bitI k))) ∧ w' = w := by
  go_enter Try.func27, Try.ntmps27
  go_wp2_with (go_at_call 78; refine (bit_any _ _).mono ?_; rintro e w' ⟨rfl, rfl⟩)
  go_ret
  exact ⟨rfl, rfl⟩

set_option maxHeartbeats 400000 in
theorem without_any (a k : Int) (w : World) :
    Calls Try.prog 29 #[.int .i64 a, .int .i64 k] w fun e w' => e = .returned (.int .i64 (bits .andNot .i64 a (bitI k))) ∧ w' = w := by
  go_enter Try.func29, Try.ntmps29
  go_wp2_with (go_at_call 78; refine (bit_any _ _).mono ?_; rintro e w' ⟨rfl, rfl⟩)
  go_ret
  exact ⟨rfl, rfl⟩


end Go.Proofs.Ytnbleebilmghcaa
