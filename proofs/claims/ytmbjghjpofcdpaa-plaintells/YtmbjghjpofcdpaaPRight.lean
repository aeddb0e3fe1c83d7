/- What is wrong with a row: plain.rightVals and plain.wrongRow, whatever the world. -/
import Derived.Test.YtmbjghjpofcdpaaPGet
set_option linter.unnecessarySimpa false
set_option linter.unusedSimpArgs false
set_option linter.unusedVariables false
namespace Go.Proofs.Ytmbjghjpofcdpaa
open Go.RowKit
attribute [local go_sem ↓] Go.wp_at_zero Go.wp_at_succ

/-- A part's value is right. -/
def okV (x : RowI) (k : Nat) : Bool := valB (x.v k) && (x.v k == 0 || hasI x.has (k : Int))
def okVs (x : RowI) (t : Nat) : Bool := (List.range t).all (fun k => okV x k)
def rvB (x : RowI) : Bool := setB x.has && okVs x 8
theorem okVs_succ (x : RowI) (t : Nat) : okVs x (t + 1) = (okVs x t && okV x t) := by
  unfold okVs; rw [List.range_succ, List.all_append]; simp
theorem okVs_false (x : RowI) (k t : Nat) (hk : k < t) (h : okV x k = false) : okVs x t = false := by
  unfold okVs
  rw [List.all_eq_false]
  exact ⟨k, List.mem_range.2 hk, by simp [h]⟩
theorem run_ix8 (v : Nat → Int) (k : Nat) (w : World) (hk : k < 8) :
    Sem.run Try.prog (Instr.index 59 (.agg #[.int .i64 (v 0), .int .i64 (v 1), .int .i64 (v 2), .int .i64 (v 3), .int .i64 (v 4), .int .i64 (v 5), .int .i64 (v 6), .int .i64 (v 7)]) (.int .i64 (k : Int))) w = .ok (.int .i64 (v k)) w := by
  rcases (by omega : k = 0 ∨ k = 1 ∨ k = 2 ∨ k = 3 ∨ k = 4 ∨ k = 5 ∨ k = 6 ∨ k = 7) with rfl | rfl | rfl | rfl | rfl | rfl | rfl | rfl
  all_goals simp [Instr.index, go_sem]

set_option maxRecDepth 8000 in
set_option maxHeartbeats 1000000 in
theorem rightVals_any (x : RowI) (w : World) :
    Calls Try.prog 112 #[rowV x] w fun e w' => e = .returned (.bool (rvB x)) ∧ Below w.heap.size w w' := by
  have hix := fun k W hk => run_ix8 x.v k W hk
  unfold rowV rvB
  cases hs : setB x.has
  · go_enter Try.func112, Try.ntmps112
    go_wp2_with (first
      | (go_at_call 15; refine (set_any _ _).mono ?_; rintro e w1 ⟨rfl, hw⟩; obtain rfl := hw.symm))
    go_ret
    exact ⟨by simp, by go_grown⟩
  · go_enter Try.func112, Try.ntmps112
    go_wp2_with (first
      | (go_at_call 15; refine (set_any _ _).mono ?_; rintro e w1 ⟨rfl, hw⟩; obtain rfl := hw.symm))
    go_loop [11] (fun i => ∃ t : Nat, t ≤ 8 ∧ i = .int .i64 t ∧ okVs x t = true) (fun i => 8 - (intOf i).toNat)
    case atStart => exact ⟨0, by omega, rfl, rfl⟩
    case round =>
      obtain ⟨t, ht, rfl, hok⟩ := hrel
      have HO := hide hok
      clear hok
      by_cases hlt : t < 8
      · have t0 : (0 : Int) ≤ (t : Int) := by omega
        have t1 : (t : Int) < 8 := by omega
        have hixt := fun W => hix t W hlt
        have HS := hide (okVs_succ x t)
        have HF := hide (okVs_false x t 8 hlt)
        have HA : Hid (okV x t = (valB (x.v t) && (x.v t == 0 || hasI x.has (t : Int)))) := rfl
        have HV := hide (fun W => value_any (x.v t) W)
        have HH := hide (fun W => has_any x.has (t : Int) W)
        clear hix
        unfold hasI at HA
        generalize okV x t = ok at *
        generalize (bits .and .i64 x.has (bitI (t : Int)) != 0) = hb at *
        generalize valB (x.v t) = vb at *
        generalize x.v t = vt at *
        have hc : vb = false ∨ (vb = true ∧ vt = 0) ∨ (vb = true ∧ ¬ vt = 0 ∧ hb = false) ∨ (vb = true ∧ ¬ vt = 0 ∧ hb = true) := by
          by_cases h : vt = 0 <;> cases vb <;> cases hb <;> simp [h]
        rcases hc with rfl | ⟨rfl, rfl⟩ | ⟨rfl, hz, rfl⟩ | ⟨rfl, hz, rfl⟩
        all_goals
          go_wp2_with (first
            | (go_at_call 18; refine (unhide HV _).mono ?_; rintro e w1 ⟨rfl, hw⟩; obtain rfl := hw.symm)
            | (go_at_call 25; refine (unhide HH _).mono ?_; rintro e w1 ⟨rfl, hw⟩; obtain rfl := hw.symm))
          first
          | (go_ret
             have hv : okVs x 8 = false := unhide HF ((unhide HA).trans (by simp [*]))
             rw [hv]
             exact ⟨rfl, by go_grown⟩)
          | (go_round
             case rel => exact ⟨t + 1, by omega, by go_num, by rw [unhide HS, unhide HO, unhide HA]; simp [*]⟩
             case measure => simp [intOf]; omega)
      · obtain rfl : t = 8 := by omega
        clear hix
        go_wp2
        go_ret
        exact ⟨by rw [unhide HO]; rfl, by go_grown⟩
end Go.Proofs.Ytmbjghjpofcdpaa
