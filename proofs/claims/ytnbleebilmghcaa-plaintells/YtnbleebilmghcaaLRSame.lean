/- What package parts reckons with bits is, for right sets, what the document's answer reckons part by part. -/
import Derived.Test.YtnbleebilmghcaaLRRegion
set_option linter.unusedVariables false
set_option linter.unusedSimpArgs false
set_option linter.unnecessarySimpa false
namespace Go.Proofs.Ytnbleebilmghcaa
open Go.RowKit

theorem wrapz (r : BitVec 64) : IntKind.i64.wrap (r.toNat : Int) = 0 ↔ r = 0#64 := by
  rw [IntKind.wrap_i64]
  have := r.isLt
  constructor
  · intro h
    apply BitVec.eq_of_toNat_eq
    simp
    omega
  · rintro rfl; simp
theorem andz (x y : Int) : bits .and .i64 x y = 0 ↔ BitVec.ofInt 64 x &&& BitVec.ofInt 64 y = 0#64 := wrapz _
theorem andNotz (x y : Int) : bits .andNot .i64 x y = 0 ↔ BitVec.ofInt 64 x &&& ~~~BitVec.ofInt 64 y = 0#64 := wrapz _

theorem lsb_tb (n : Int) (k : Nat) (h0 : 0 ≤ n) (hk : k < 64) : (BitVec.ofInt 64 n).getLsbD k = tb n k := by
  obtain ⟨m, rfl⟩ := Int.eq_ofNat_of_zero_le h0
  rw [BitVec.ofInt_natCast, BitVec.getLsbD_ofNat, Nat.testBit_eq_decide_div_mod_eq]
  unfold tb
  rw [show ((m : Int) / ((2 ^ k : Nat) : Int) % 2) = ((m / 2 ^ k % 2 : Nat) : Int) by push_cast; rfl]
  generalize m / 2 ^ k % 2 = q
  rw [Bool.eq_iff_iff]
  simp only [hk, decide_true, Bool.true_and, decide_eq_true_eq, beq_iff_eq]
  omega
theorem tb_far (n : Int) (k : Nat) (h0 : 0 ≤ n) (h1 : n ≤ 255) (hk : 8 ≤ k) : tb n k = false := by
  obtain ⟨m, rfl⟩ := Int.eq_ofNat_of_zero_le h0
  unfold tb
  have h2 : 256 ≤ 2 ^ k := by
    have := Nat.pow_le_pow_right (n := 2) (by omega) hk
    omega
  have e : m / 2 ^ k = 0 := Nat.div_eq_of_lt (by omega)
  rw [show ((m : Int) / ((2 ^ k : Nat) : Int) % 2) = ((m / 2 ^ k % 2 : Nat) : Int) by push_cast; rfl, e]
  decide

theorem okTo_all (a n h : Int) (m : Nat) : okTo a n h m = true ↔ ∀ k, k < m → okAt a n h k = true := by
  unfold okTo; rw [List.all_eq_true]; simp

theorem meets_ok (a n h : Int) (a0 : 0 ≤ a) (a1 : a ≤ 255) (n0 : 0 ≤ n) (n1 : n ≤ 255) (h0 : 0 ≤ h) : meetsB a n h = okTo a n h 8 := by
  rw [Bool.eq_iff_iff, okTo_all]
  simp only [meetsB, Bool.and_eq_true, beq_iff_eq, andz, andNotz]
  constructor
  · rintro ⟨e1, e2⟩ k hk
    have g1 := congrArg (fun v : BitVec 64 => v.getLsbD k) e1
    have g2 := congrArg (fun v : BitVec 64 => v.getLsbD k) e2
    simp only [BitVec.getLsbD_and, BitVec.getLsbD_not, lsb_tb _ k a0 (by omega), lsb_tb _ k h0 (by omega), lsb_tb _ k n0 (by omega), BitVec.getLsbD_zero] at g1 g2
    have hk64 : decide (k < 64) = true := by simp; omega
    rw [hk64] at g1
    unfold okAt
    revert g1 g2
    cases tb a k <;> cases tb n k <;> cases tb h k <;> simp
  · intro hall
    constructor
    · apply BitVec.eq_of_getLsbD_eq
      intro i hi
      rw [BitVec.getLsbD_and, BitVec.getLsbD_not, lsb_tb _ i a0 hi, lsb_tb _ i h0 hi, BitVec.getLsbD_zero]
      by_cases h8 : i < 8
      · have := hall i h8
        unfold okAt at this
        revert this
        cases tb a i <;> cases tb n i <;> cases tb h i <;> simp
      · rw [tb_far a i a0 a1 (by omega)]; simp
    · apply BitVec.eq_of_getLsbD_eq
      intro i hi
      rw [BitVec.getLsbD_and, lsb_tb _ i n0 hi, lsb_tb _ i h0 hi, BitVec.getLsbD_zero]
      by_cases h8 : i < 8
      · have := hall i h8
        unfold okAt at this
        revert this
        cases tb a i <;> cases tb n i <;> cases tb h i <;> simp
      · rw [tb_far n i n0 n1 (by omega)]; simp

theorem has_hasB (a k : Int) (a0 : 0 ≤ a) (a1 : a ≤ 255) : (bits .and .i64 a (bitI k) != 0) = hasB a k := by
  by_cases hk : 0 ≤ k ∧ k < 8
  · obtain ⟨j, rfl⟩ := Int.eq_ofNat_of_zero_le hk.1
    rw [has_tb a j a0 a1 (by omega)]
    simp [hasB, hk]
  · have e : bitI k = 0 := by unfold bitI; rw [if_neg hk]
    obtain ⟨m, rfl⟩ := fin_of a a0 a1
    rw [e, (num_fin m).2.2.2]
    simp [hasB, hk]
theorem has_same (a k : Int) (w : World) (a0 : 0 ≤ a) (a1 : a ≤ 255) :
    Calls Try.prog 25 #[.int .i64 a, .int .i64 k] w fun e w' => e = .returned (.bool (hasB a k)) ∧ w' = w := by
  have := has_any a k w
  rwa [has_hasB a k a0 a1] at this

theorem list_read {a : Int} {w w' : World} {v : Value} (h : w'.ownsRow w.heap.size 3 1 v (lstTo a 8).length ((lstTo a 8).map (Value.int .i64))) :
    ∃ ao cap, v = .slice ao (lstTo a 8).length cap ∧ (lstTo a 8).length ≤ cap ∧ (∀ j, j < (lstTo a 8).length → ∃ g, ao = some ⟨g, 0, none⟩ ∧ w'.cell? ⟨g, j, none⟩ = some (.int .i64 ((lstTo a 8).getD j 0))) := by
  rcases h.2 with ⟨hv, h0⟩ | ⟨g, cap, cur, hv, hb, hg, hcap, _⟩
  · exact ⟨none, 0, by rw [hv, h0], by omega, fun j hj => by omega⟩
  · refine ⟨some ⟨g, 0, none⟩, cap, hv, hcap, fun j hj => ⟨g, rfl, ?_⟩⟩
    rw [hv] at h
    rw [h.cellAt j (by omega)]
    simp [hj]
theorem list_two (a : Int) (w : World) (h0 : 0 ≤ a) (h1 : a ≤ 255) :
    Calls Try.prog 23 #[.int .i64 a] w fun e w' => ∃ ao cap, e = .returned (.slice ao (lstTo a 8).length cap) ∧ Below w.heap.size w w' ∧ (lstTo a 8).length ≤ cap ∧ (∀ j, j < (lstTo a 8).length → ∃ g, ao = some ⟨g, 0, none⟩ ∧ w'.cell? ⟨g, j, none⟩ = some (.int .i64 ((lstTo a 8).getD j 0))) := by
  refine (list_any a w h0 h1).mono ?_
  rintro e w' ⟨v, rfl, hown, hb⟩
  obtain ⟨ao, cap, rfl, h2, h3⟩ := list_read hown
  exact ⟨ao, cap, rfl, hb, h2, h3⟩
theorem rlist_two (a : Int) (w : World) (h0 : 0 ≤ a) (h1 : a ≤ 255) :
    Calls Try.prog 24 #[.int .i64 a] w fun e w' => ∃ ao cap, e = .returned (.slice ao (lstTo a 8).length cap) ∧ Below w.heap.size w w' ∧ (lstTo a 8).length ≤ cap ∧ (∀ j, j < (lstTo a 8).length → ∃ g, ao = some ⟨g, 0, none⟩ ∧ w'.cell? ⟨g, j, none⟩ = some (.int .i64 ((lstTo a 8).getD j 0))) := by
  refine (rlist_any a w h0 h1).mono ?_
  rintro e w' ⟨v, rfl, hown, hb⟩
  obtain ⟨ao, cap, rfl, h2, h3⟩ := list_read hown
  exact ⟨ao, cap, rfl, hb, h2, h3⟩
end Go.Proofs.Ytnbleebilmghcaa
