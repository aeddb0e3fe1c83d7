/- The closed fact that statements of chapter 1 ask first holds: the package answers. -/
import Derived.Test.YtnbleebilmghcaaSLists
import Derived.Deep.RegionWith
set_option maxRecDepth 100000
set_option linter.unnecessarySimpa false
set_option linter.unusedSimpArgs false
set_option linter.unusedVariables false
namespace Go.Proofs.Ytnbleebilmghcaa
open Go.RowKit

theorem set_lit (n : Int) (b : Bool) (w : World) (h : setB n = b) : Calls Try.prog 15 #[.int .i64 n] w fun e w' => e = .returned (.bool b) ∧ w' = w := h ▸ set_any n w
theorem c1 : (bits .and .i64 5 (bitI 2) != 0) = true := by decide +kernel
theorem c2 : bits .or .i64 1 (bitI 3) = 9 := by decide +kernel
theorem c3 : bits .andNot .i64 9 (bitI 3) = 1 := by decide +kernel
theorem c4 : ((lstTo 11 8).length : Int) = 3 := by decide +kernel
theorem c5 : clipI (-2000000) = -1000000 := by decide +kernel
theorem c6 : (lstTo 11 8).length = 3 := by decide +kernel
theorem has_lit (w : World) : Calls Try.prog 25 #[.int .i64 5, .int .i64 2] w fun e w' => e = .returned (.bool true) ∧ w' = w := by have := has_any 5 2 w; rwa [c1] at this
theorem with_lit (w : World) : Calls Try.prog 27 #[.int .i64 1, .int .i64 3] w fun e w' => e = .returned (.int .i64 9) ∧ w' = w := by have := with_any 1 3 w; rwa [c2] at this
theorem without_lit (w : World) : Calls Try.prog 29 #[.int .i64 9, .int .i64 3] w fun e w' => e = .returned (.int .i64 1) ∧ w' = w := by have := without_any 9 3 w; rwa [c3] at this
theorem count_lit (w : World) : Calls Try.prog 30 #[.int .i64 11] w fun e w' => e = .returned (.int .i64 3) ∧ w' = w := by have := count_any 11 w (by decide) (by decide); rwa [c4] at this
theorem clip_lit (w : World) : Calls Try.prog 20 #[.int .i64 (-2000000)] w fun e w' => e = .returned (.int .i64 (-1000000)) ∧ w' = w := by have := clip_any (-2000000) w; rwa [c5] at this
theorem list_lit (w : World) : Calls Try.prog 23 #[.int .i64 11] w fun e w' => ∃ ao cap, e = .returned (.slice ao 3 cap) ∧ Below w.heap.size w w' := by
  refine (list_any 11 w (by decide) (by decide)).mono ?_
  rintro e w' ⟨v, rfl, hown, hb⟩
  rcases hown.2 with ⟨_, h0⟩ | ⟨g, cap, cur, hv, _⟩
  · rw [c6] at h0; omega
  · exact ⟨_, cap, by rw [hv, c6], hb⟩

set_option maxHeartbeats 400000 in
theorem alive_any (w : World) : Calls Try.prog 33 #[] w fun e w' => e = .returned (.bool true) ∧ Below w.heap.size w w' := by
  go_enter Try.func33, Try.ntmps33
  go_wp2_with (first
    | (go_at_call_of 15 (255 : Int); refine (set_lit 255 true _ rfl).mono ?_; rintro e w1 ⟨rfl, hw⟩; obtain rfl := hw.symm)
    | (go_at_call_of 15 (256 : Int); refine (set_lit 256 false _ rfl).mono ?_; rintro e w1 ⟨rfl, hw⟩; obtain rfl := hw.symm)
    | (go_at_call 25; refine (has_lit _).mono ?_; rintro e w1 ⟨rfl, hw⟩; obtain rfl := hw.symm)
    | (go_at_call 27; refine (with_lit _).mono ?_; rintro e w1 ⟨rfl, hw⟩; obtain rfl := hw.symm)
    | (go_at_call 29; refine (without_lit _).mono ?_; rintro e w1 ⟨rfl, hw⟩; obtain rfl := hw.symm)
    | (go_at_call 30; refine (count_lit _).mono ?_; rintro e w1 ⟨rfl, hw⟩; obtain rfl := hw.symm)
    | (go_at_call 23; refine (list_lit _).mono ?_; rintro e w2 ⟨ao, cap, rfl, hb⟩)
    | (go_at_call 20; refine (clip_lit _).mono ?_; rintro e w1 ⟨rfl, hw⟩; obtain rfl := hw.symm))
  go_ret
  exact ⟨rfl, hb⟩
end Go.Proofs.Ytnbleebilmghcaa
