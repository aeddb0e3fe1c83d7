/- Contracts of package parts' small functions, whatever the numbers. -/
import Derived.Test.YthmkmbpodpblhabRows
import Derived.Test.YthmkmbpodpblhabMath
import Derived.WalkKit
import Derived.WalkSpells
import Derived.Handy
namespace Go.Proofs.Ythmkmbpodpblhab
open Go.RowKit

def setB (n : Int) : Bool := decide (0 ≤ n ∧ n ≤ 255)
def partB (n : Int) : Bool := decide (0 ≤ n ∧ n < 8)
def valB (n : Int) : Bool := decide (-1000000 ≤ n ∧ n ≤ 1000000)
theorem hide {p : Prop} (h : p) : Hid p := h
theorem unhide {p : Prop} (h : Hid p) : p := h

set_option maxHeartbeats 400000 in
theorem set_any (n : Int) (w : World) :
    Calls Try.prog 10 #[.int .i64 n] w fun e w' => e = .returned (.bool (setB n)) ∧ w' = w := by
  by_cases h0 : 0 ≤ n <;> by_cases h1 : n ≤ 255
  all_goals
    go_enter Try.func10, Try.ntmps10
    go_wp2
    go_ret
    exact ⟨by simp [setB, h0, h1], rfl⟩

set_option maxHeartbeats 400000 in
theorem part_any (n : Int) (w : World) :
    Calls Try.prog 22 #[.int .i64 n] w fun e w' => e = .returned (.bool (partB n)) ∧ w' = w := by
  by_cases h0 : 0 ≤ n <;> by_cases h1 : n < 8
  all_goals
    go_enter Try.func22, Try.ntmps22
    go_wp2
    go_ret
    exact ⟨by simp [partB, h0, h1], rfl⟩

set_option maxHeartbeats 400000 in
theorem value_any (n : Int) (w : World) :
    Calls Try.prog 23 #[.int .i64 n] w fun e w' => e = .returned (.bool (valB n)) ∧ w' = w := by
  by_cases h0 : -1000000 ≤ n <;> by_cases h1 : n ≤ 1000000
  all_goals
    go_enter Try.func23, Try.ntmps23
    go_wp2
    go_ret
    exact ⟨by simp [valB, h0, h1], rfl⟩

theorem bit_cases (k : Int) (h : partB k = true) : k = 0 ∨ k = 1 ∨ k = 2 ∨ k = 3 ∨ k = 4 ∨ k = 5 ∨ k = 6 ∨ k = 7 := by
  have := of_decide_eq_true h
  omega

set_option maxHeartbeats 400000 in
theorem bit_any (k : Int) (w : World) :
    Calls Try.prog 24 #[.int .i64 k] w fun e w' => e = .returned (.int .i64 (bitI k)) ∧ w' = w := by
  by_cases h : partB k = true
  · rcases bit_cases k h with rfl | rfl | rfl | rfl | rfl | rfl | rfl | rfl
    all_goals
      clear h
      go_enter Try.func24, Try.ntmps24
      go_wp2
      go_ret
      exact ⟨rfl, rfl⟩
  · have h' : partB k = false := by simpa using h
    clear h
    go_enter Try.func24, Try.ntmps24
    go_wp2_with (go_at_call 22; refine (part_any _ _).mono ?_; rintro e w' ⟨rfl, rfl⟩)
    go_ret
    exact ⟨by have := of_decide_eq_false h'; simp [bitI, this], rfl⟩

set_option maxHeartbeats 400000 in
theorem has_any (a k : Int) (w : World) :
    Calls Try.prog 21 #[.int .i64 a, .int .i64 k] w fun e w' => e = .returned (.bool (bits .and .i64 a (bitI k) != 0)) ∧ w' = w := by
  go_enter Try.func21, Try.ntmps21
  go_wp2_with (go_at_call 24; refine (bit_any _ _).mono ?_; rintro e w' ⟨rfl, rfl⟩)
  go_ret
  exact ⟨rfl, rfl⟩

set_option maxHeartbeats 400000 in
theorem with_any (a k : Int) (w : World) :
    Calls Try.prog 19 #[.int .i64 a, .int .i64 k] w fun e w' => e = .returned (.int .i64 (bits .or .i64 a (bitI k))) ∧ w' = w := by
  go_enter Try.func19, Try.ntmps19
  go_wp2_with (go_at_call 24; refine (bit_any _ _).mono ?_; rintro e w' ⟨rfl, rfl⟩)
  go_ret
  exact ⟨rfl, rfl⟩

set_option maxHeartbeats 400000 in
theorem without_any (a k : Int) (w : World) :
    Calls Try.prog 20 #[.int .i64 a, .int .i64 k] w fun e w' => e = .returned (.int .i64 (bits .andNot .i64 a (bitI k))) ∧ w' = w := by
  go_enter Try.func20, Try.ntmps20
  go_wp2_with (go_at_call 24; refine (bit_any _ _).mono ?_; rintro e w' ⟨rfl, rfl⟩)
  go_ret
  exact ⟨rfl, rfl⟩
end Go.Proofs.Ythmkmbpodpblhab
