/- Contracts of the document's answer (sets as lists of yes and no) and of parts.Count, for right sets. -/
import Derived.Test.YtnbleebilmghcabBRParts
set_option linter.unusedVariables false
set_option linter.unusedSimpArgs false
set_option linter.unnecessarySimpa false
namespace Go.Proofs.Ytnbleebilmghcab
open Go.RowKit

theorem ret_int {k : IntKind} {a b : Int} (h : a = b) : Ending.returned (.int k a) = .returned (.int k b) := by rw [h]


set_option maxRecDepth 8000 in
set_option maxHeartbeats 400000 in
theorem oc_any (x : Int) (w : World) (_ : 0 ≤ x) (_ : x ≤ 255) :
    Calls Try.prog 121 #[.int .u64 x] w fun e w' => e = .returned (.int .i64 (oc x)) ∧ w' = w := by
  go_enter Try.func121, Try.ntmps121
  go_wp2
  go_ret
  exact ⟨ret_int rfl, rfl⟩

set_option maxRecDepth 8000 in
set_option maxHeartbeats 400000 in
theorem count_any (a : Int) (w : World) (h0 : 0 ≤ a) (h1 : a ≤ 255) :
    Calls Try.prog 92 #[.int .i64 a] w fun e w' => e = .returned (.int .i64 ((lstTo a 8).length : Int)) ∧ w' = w := by
  have e1 := and255 a h0 h1
  have e2 : Hid (oc a = ((lstTo a 8).length : Int)) := oc_lst a h0 h1
  have e3 : IntKind.u64.wrap a = a := by rw [IntKind.wrap_u64]; omega
  go_enter Try.func92, Try.ntmps92
  go_wp2_with (first | (go_at_call 121; refine (oc_any _ _ (by omega) (by omega)).mono ?_; rintro e w' ⟨rfl, rfl⟩) | go_in)
  go_ret
  exact ⟨ret_int e2.out, rfl⟩

theorem numL_step (b : Bool) (r : List Bool) : numL (b :: r) = 2 * numL r + if b then 1 else 0 := rfl

def arr (n : Int) : Array Value := #[.bool (tb n 0), .bool (tb n 1), .bool (tb n 2), .bool (tb n 3), .bool (tb n 4), .bool (tb n 5), .bool (tb n 6), .bool (tb n 7)]

theorem tb_eqs (n : Int) : (n % 2 == 1) = tb n 0 ∧ (n / 2 % 2 == 1) = tb n 1 ∧ (n / 2 / 2 % 2 == 1) = tb n 2 ∧ (n / 2 / 2 / 2 % 2 == 1) = tb n 3 ∧
    (n / 2 / 2 / 2 / 2 % 2 == 1) = tb n 4 ∧ (n / 2 / 2 / 2 / 2 / 2 % 2 == 1) = tb n 5 ∧ (n / 2 / 2 / 2 / 2 / 2 / 2 % 2 == 1) = tb n 6 ∧ (n / 2 / 2 / 2 / 2 / 2 / 2 / 2 % 2 == 1) = tb n 7 := by
  have key : ∀ x y : Int, x = y → (x % 2 == 1) = (y % 2 == 1) := fun x y h => by rw [h]
  refine ⟨?_, ?_, ?_, ?_, ?_, ?_, ?_, ?_⟩ <;> exact key _ _ (by simp; try omega)

set_option maxRecDepth 8000 in
set_option maxHeartbeats 400000 in
theorem bits_any (n : Int) (w : World) (h0 : 0 ≤ n) (h1 : n ≤ 255) :
    Calls Try.prog 45 #[.int .i64 n] w fun e w' => e = .returned (.agg (arr n)) ∧ w' = (w.alloc (.cells (arr n) 92)).alloc (.cells (arr n) 92) := by
  go_enter Try.func45, Try.ntmps45
  go_wp2
  go_rounds 9
  obtain ⟨e0, e1, e2, e3, e4, e5, e6, e7⟩ := tb_eqs n
  simp only [e0, e1, e2, e3, e4, e5, e6, e7]
  exact bodyPost_ret (v := .agg (arr n)) (by simp [results, Try.results45, go_sem, arr]) rfl ⟨rfl, rfl⟩

set_option maxRecDepth 8000 in
set_option maxHeartbeats 400000 in
theorem num_any (b0 b1 b2 b3 b4 b5 b6 b7 : Bool) (w : World) :
    Calls Try.prog 99 #[.agg #[.bool b0, .bool b1, .bool b2, .bool b3, .bool b4, .bool b5, .bool b6, .bool b7]] w fun e w' => e = .returned (.int .i64 (numL [b0, b1, b2, b3, b4, b5, b6, b7])) ∧
      w' = w.alloc (.cells #[.bool b0, .bool b1, .bool b2, .bool b3, .bool b4, .bool b5, .bool b6, .bool b7] 92) := by
  go_enter Try.func99, Try.ntmps99
  go_wp2
  go_loop [3, 4] (fun n k => ∃ j : Nat, j ≤ 8 ∧ k = .int .i64 (7 - (j : Int)) ∧ n = .int .i64 (numL ([b0, b1, b2, b3, b4, b5, b6, b7].drop (8 - j)))) (fun _ k => (intOf k + 1).toNat)
  case atStart => exact ⟨0, by omega, rfl, rfl⟩
  case round =>
    obtain ⟨j, hj, rfl, rfl⟩ := hrel
    have hb := numL_bd ([b0, b1, b2, b3, b4, b5, b6, b7].drop (8 - j))
    obtain ⟨m, hm⟩ : ∃ m, m = numL ([b0, b1, b2, b3, b4, b5, b6, b7].drop (8 - j)) := ⟨_, rfl⟩
    rw [← hm] at hb ⊢
    obtain ⟨t, ht⟩ : ∃ t, t = j + 1 := ⟨_, rfl⟩
    rcases (by omega : j = 0 ∨ j = 1 ∨ j = 2 ∨ j = 3 ∨ j = 4 ∨ j = 5 ∨ j = 6 ∨ j = 7 ∨ j = 8) with rfl | rfl | rfl | rfl | rfl | rfl | rfl | rfl | rfl
    case inr.inr.inr.inr.inr.inr.inr.inr =>
      have HM : Hid (m = numL [b0, b1, b2, b3, b4, b5, b6, b7]) := hm
      clear hm hb ht
      go_wp2
      go_ret
      exact ⟨ret_int HM.out, rfl⟩
    all_goals
      have hb1 : 0 ≤ m ∧ m < 256 := by simp at hb; omega
      simp only [List.drop_succ_cons, List.drop_zero, Nat.reduceSub, List.drop_nil] at hm
      have HM := hide hm
      have HT := hide ht
      clear hm hb ht
      go_wp2
      all_goals
        go_round
        case rel => exact ⟨t, by rw [unhide HT]; omega, by rw [unhide HT]; rfl, by rw [unhide HT]; simp only [List.drop_succ_cons, List.drop_zero, Nat.reduceSub, Nat.reduceAdd]; rw [numL_step, ← unhide HM]; simp [*]⟩
        case measure => first | (simp [intOf]; done) | (simp [intOf]; omega)
end Go.Proofs.Ytnbleebilmghcab
