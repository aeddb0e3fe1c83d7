/- Contracts of parts.List and of the document's List, for right sets: a slice of the call's own that holds the set's parts, rising. -/
import Derived.Test.YtnbleebilmghcaaSRef
set_option maxRecDepth 100000
set_option linter.unnecessarySimpa false
set_option linter.unusedSimpArgs false
set_option linter.unusedVariables false
namespace Go.Proofs.Ytnbleebilmghcaa
open Go.RowKit

theorem Try.info3 : (Try.prog.info? 3).map (fun i => (i.zero, i.size, i.bytes)) = some (some (.int .i64 0), 1, 8) := by kernel_rfl

theorem has_right (a : Int) (k : Nat) (w : World) (h0 : 0 ≤ a) (h1 : a ≤ 255) (hk : k < 8) :
    Calls Try.prog 25 #[.int .i64 a, .int .i64 (k : Int)] w fun e w' => e = .returned (.bool (tb a k)) ∧ w' = w := by
  have := has_any a (k : Int) w
  rwa [has_tb a k h0 h1 hk] at this

theorem new_one (w : World) (x : Value) (t : TypeId) : ∀ j u, [x][j]? = some u → (w.alloc (.cells #[x] t)).cell? ((⟨w.heap.size, 0, none⟩ : Addr).add j) = some u := by
  intro j u hj
  match j, hj with
  | 0, hj => simp at hj; subst hj; simp [Addr.add]
theorem one_cell (k : IntKind) (n : Int) : ∀ u ∈ [Value.int k n], u.oneCell' = true := by
  intro u hu; simp at hu; subst hu; rfl

/-- What an append of part k does to the relation. -/
theorem rel_app {a : Int} {k : Nat} {w wr w1 : World} {v v' : Value} (ht : tb a k = true) (hbel : Below w.heap.size w wr)
    (hown : wr.ownsRow w.heap.size 3 1 v (lstTo a k).length ((lstTo a k).map (Value.int .i64)))
    (hown' : w1.ownsRow w.heap.size 3 1 v' ((lstTo a k).length + 1) ((lstTo a k).map (Value.int .i64) ++ [.int .i64 (k : Int)]))
    (hgrow : (wr.alloc (.cells #[.int .i64 (k : Int)] 3)).grownBy w1 v.ownBlock) :
    w1.ownsRow w.heap.size 3 1 v' (lstTo a (k + 1)).length ((lstTo a (k + 1)).map (Value.int .i64)) ∧ Below w.heap.size w w1 := by
  constructor
  · rw [lst_succ, if_pos ht]; simpa using hown'
  · have hb2 : Below w.heap.size w (wr.alloc (.cells #[.int .i64 (k : Int)] 3)) := hbel.alloc hbel.size _
    exact hb2.grown hgrow hb2.size (fun g hg => (hown.lt g hg).1)

set_option maxHeartbeats 400000 in
theorem list_any (a : Int) (w : World) (h0 : 0 ≤ a) (h1 : a ≤ 255) :
    Calls Try.prog 23 #[.int .i64 a] w fun e w' => ∃ v, e = .returned v ∧ w'.ownsRow w.heap.size 3 1 v (lstTo a 8).length ((lstTo a 8).map (Value.int .i64)) ∧ Below w.heap.size w w' := by
  obtain ⟨i0, hi, hz0, hz1, hz2⟩ := info_parts Try.info3
  have hl8 := lst_len a 8
  go_enter Try.func23, Try.ntmps23
  go_wp2_with (first
    | (go_at_call 30; refine (count_any _ _ h0 h1).mono ?_; rintro e w1 ⟨rfl, hw⟩; obtain rfl := hw.symm)
    | (at_make; refine wpList_make_own _ rfl _ _ 26 rfl w.heap.size 3 i0 (.int .i64 0) 1 Try.underlying26 hi hz0 hz1 .i64 .i64 _ (lstTo a 8).length rfl rfl rfl (by rw [hz2]; omega) (by unfold maxLen; omega) (Nat.le_refl _) ?_; intro w0 hown0 hgrow0))
  have hb0 : Below w.heap.size w w0 := (Below.refl _ _).grown hgrow0 (Nat.le_refl _) (fun _ h => by cases h)
  go_loopw [3, 8] (fun v i wr => ∃ k : Nat, k ≤ 8 ∧ i = .int .i64 k ∧ wr.ownsRow w.heap.size 3 1 v (lstTo a k).length ((lstTo a k).map (Value.int .i64)) ∧ Below w.heap.size w wr) (fun _ i _ => 8 - (intOf i).toNat)
  case atStart => exact ⟨0, Nat.zero_le _, rfl, hown0, hb0⟩
  case round =>
    obtain ⟨k, hk, rfl, hown, hbel⟩ := hrel
    clear hown0 hgrow0 hb0
    have hlk := lst_len a k
    have hsz := hbel.size
    by_cases hlt : k < 8
    · cases ht : tb a k
      · have hc := has_right a k wr h0 h1 hlt
        rw [ht] at hc
        have HC := hide hc
        have HT := hide ht
        clear hc ht
        go_wp2_with (first | (go_at_call 25; refine (unhide HC).mono ?_; rintro e w1 ⟨rfl, hw⟩; obtain rfl := hw.symm))
        go_roundw
        case rel => exact ⟨k + 1, by omega, by go_num, by rw [lst_succ, if_neg (by rw [unhide HT]; decide)]; exact hown, hbel⟩
        case measure => simp [intOf]; omega
      · have hc := has_right a k wr h0 h1 hlt
        rw [ht] at hc
        have HC := hide hc
        have HT := hide ht
        clear hc ht
        go_wp2_with (first
          | (go_at_call 25; refine (unhide HC).mono ?_; rintro e w1 ⟨rfl, hw⟩; obtain rfl := hw.symm)
          | (at_builtin; refine wpList_append_own _ rfl _ _ 26 rfl w.heap.size 3 i0 (.int .i64 0) 1 8 Try.underlying26 hi hz0 hz1 hz2 rfl (by decide) _ _ _ rfl (hown.alloc _) ⟨wr.heap.size, 0, none⟩ 1 1 [.int .i64 (k : Int)] rfl rfl (new_one _ _ _) (one_cell _ _) (by unfold maxLen; omega) (by omega) (by simp; omega) ?_; intro v' w1 hown' hgrow _))
        have R := rel_app (unhide HT) hbel hown hown' hgrow
        clear hown' hgrow hown hbel
        go_wp2
        go_roundw
        case rel => exact ⟨k + 1, by omega, by go_num, R.1, R.2⟩
        case measure => simp [intOf]; omega
    · obtain rfl : k = 8 := by omega
      have HO := hide hown
      clear hown
      go_wp2
      go_ret
      exact ⟨_, rfl, unhide HO, hbel⟩

theorem run_ix (a : Int) (k : Nat) (w : World) (hk : k < 8) :
    Sem.run Try.prog (Instr.index 24 (.agg (arr a)) (.int .i64 (k : Int))) w = .ok (.bool (tb a k)) w := by
  rcases (by omega : k = 0 ∨ k = 1 ∨ k = 2 ∨ k = 3 ∨ k = 4 ∨ k = 5 ∨ k = 6 ∨ k = 7) with rfl | rfl | rfl | rfl | rfl | rfl | rfl | rfl
  all_goals simp [Instr.index, go_sem, arr]

set_option maxHeartbeats 400000 in
theorem rlist_any (a : Int) (w : World) (h0 : 0 ≤ a) (h1 : a ≤ 255) :
    Calls Try.prog 24 #[.int .i64 a] w fun e w' => ∃ v, e = .returned v ∧ w'.ownsRow w.heap.size 3 1 v (lstTo a 8).length ((lstTo a 8).map (Value.int .i64)) ∧ Below w.heap.size w w' := by
  obtain ⟨i0, hi, hz0, hz1, hz2⟩ := info_parts Try.info3
  go_enter Try.func24, Try.ntmps24
  go_wp2_with (first
    | (go_at_call 22; refine (bits_any _ _ h0 h1).mono ?_; rintro e w1 ⟨rfl, rfl⟩))
  have hb0 : Below w.heap.size w ((w.alloc (.cells (arr a) 24)).alloc (.cells (arr a) 24)) := by go_grown
  go_loopw [3, 8] (fun v i wr => ∃ k : Nat, k ≤ 8 ∧ i = .int .i64 k ∧ wr.ownsRow w.heap.size 3 1 v (lstTo a k).length ((lstTo a k).map (Value.int .i64)) ∧ Below w.heap.size w wr) (fun _ i _ => 8 - (intOf i).toNat)
  case atStart => exact ⟨0, Nat.zero_le _, rfl, World.ownsRow_nil _ _ _ _, hb0⟩
  case round =>
    obtain ⟨k, hk, rfl, hown, hbel⟩ := hrel
    clear hb0
    have hlk := lst_len a k
    have hsz := hbel.size
    by_cases hlt : k < 8
    · have hix := run_ix a k wr hlt
      cases ht : tb a k
      · rw [ht] at hix
        have HT := hide ht
        clear ht
        go_wp2
        go_roundw
        case rel => exact ⟨k + 1, by omega, by go_num, by rw [lst_succ, if_neg (by rw [unhide HT]; decide)]; exact hown, hbel⟩
        case measure => simp [intOf]; omega
      · rw [ht] at hix
        have HT := hide ht
        clear ht
        go_wp2_with (first
          | (at_builtin; refine wpList_append_own _ rfl _ _ 26 rfl w.heap.size 3 i0 (.int .i64 0) 1 8 Try.underlying26 hi hz0 hz1 hz2 rfl (by decide) _ _ _ rfl (hown.alloc _) ⟨wr.heap.size, 0, none⟩ 1 1 [.int .i64 (k : Int)] rfl rfl (new_one _ _ _) (one_cell _ _) (by unfold maxLen; omega) (by omega) (by simp; omega) ?_; intro v' w1 hown' hgrow _))
        have R := rel_app (unhide HT) hbel hown hown' hgrow
        clear hown' hgrow hown hbel
        go_wp2
        go_roundw
        case rel => exact ⟨k + 1, by omega, by go_num, R.1, R.2⟩
        case measure => simp [intOf]; omega
    · obtain rfl : k = 8 := by omega
      have HO := hide hown
      clear hown
      go_wp2
      go_ret
      exact ⟨_, rfl, unhide HO, hbel⟩
end Go.Proofs.Ytnbleebilmghcaa
