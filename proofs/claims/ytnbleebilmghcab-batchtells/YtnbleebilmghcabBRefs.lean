/- Contracts of the document's Has, for right sets; and what bits are part by part. -/
import Derived.Test.YtnbleebilmghcabBRight
import Derived.Test.YtnbleebilmghcabBRef
set_option linter.unusedVariables false
set_option linter.unusedSimpArgs false
set_option linter.unnecessarySimpa false
namespace Go.Proofs.Ytnbleebilmghcab
open Go.RowKit

theorem run_ix (a : Int) (k : Nat) (w : World) (hk : k < 8) :
    Sem.run Try.prog (Instr.index 92 (.agg (arr a)) (.int .i64 (k : Int))) w = .ok (.bool (tb a k)) w := by
  rcases (by omega : k = 0 ∨ k = 1 ∨ k = 2 ∨ k = 3 ∨ k = 4 ∨ k = 5 ∨ k = 6 ∨ k = 7) with rfl | rfl | rfl | rfl | rfl | rfl | rfl | rfl
  all_goals simp [Instr.index, go_sem, arr]
def hasB (a k : Int) : Bool := decide (0 ≤ k ∧ k < 8) && tb a k.toNat

set_option maxRecDepth 8000 in
set_option maxHeartbeats 400000 in
theorem rhas_any (a k : Int) (w : World) (h0 : 0 ≤ a) (h1 : a ≤ 255) :
    Calls Try.prog 20 #[.int .i64 a, .int .i64 k] w fun e w' => e = .returned (.bool (hasB a k)) ∧ Below w.heap.size w w' := by
  by_cases k0 : 0 ≤ k
  · by_cases k1 : k < 8
    · obtain ⟨j, rfl⟩ := Int.eq_ofNat_of_zero_le k0
      have hix := run_ix a j
      have hj : j < 8 := by omega
      go_enter Try.func20, Try.ntmps20
      go_wp2_with (first | (go_at_call 45; refine (bits_any _ _ h0 h1).mono ?_; rintro e w1 ⟨rfl, rfl⟩))
      go_ret
      exact ⟨by simp [hasB, k1], by go_grown⟩
    · go_enter Try.func20, Try.ntmps20
      go_wp2
      go_ret
      exact ⟨by simp [hasB]; omega, by go_grown⟩
  · go_enter Try.func20, Try.ntmps20
    go_wp2
    go_ret
    exact ⟨by simp [hasB]; omega, by go_grown⟩
/-- A right set, a part. -/
theorem rhas_at (a : Int) (k : Nat) (w : World) (h : setB a = true) (hk : k < 8) :
    Calls Try.prog 20 #[.int .i64 a, .int .i64 (k : Int)] w fun e w' => e = .returned (.bool (tb a k)) ∧ Below w.heap.size w w' := by
  have h1 := of_decide_eq_true h
  have := rhas_any a (k : Int) w h1.1 h1.2
  have e : hasB a (k : Int) = tb a k := by simp [hasB]; omega
  rwa [e] at this

theorem lsb_tb (n : Int) (k : Nat) (h0 : 0 ≤ n) (hk : k < 64) : (BitVec.ofInt 64 n).getLsbD k = tb n k := by
  obtain ⟨m, rfl⟩ := Int.eq_ofNat_of_zero_le h0
  rw [BitVec.ofInt_natCast, BitVec.getLsbD_ofNat, Nat.testBit_eq_decide_div_mod_eq]
  unfold tb
  rw [show ((m : Int) / ((2 ^ k : Nat) : Int) % 2) = ((m / 2 ^ k % 2 : Nat) : Int) by push_cast; rfl]
  generalize m / 2 ^ k % 2 = q
  rw [Bool.eq_iff_iff]
  simp only [hk, decide_true, Bool.true_and, decide_eq_true_eq, beq_iff_eq]
  omega
theorem tb_far (n : Int) (k : Nat) (h : setB n = true) (hk : 8 ≤ k) : tb n k = false := by
  have h1 := of_decide_eq_true h
  obtain ⟨m, rfl⟩ := Int.eq_ofNat_of_zero_le h1.1
  unfold tb
  have h2 : 256 ≤ 2 ^ k := by
    have := Nat.pow_le_pow_right (n := 2) (by omega) hk
    omega
  have e : m / 2 ^ k = 0 := Nat.div_eq_of_lt (by omega)
  rw [show ((m : Int) / ((2 ^ k : Nat) : Int) % 2) = ((m / 2 ^ k % 2 : Nat) : Int) by push_cast; rfl, e]
  decide
theorem set_nonneg {x : Int} (h : setB x = true) : 0 ≤ x := (of_decide_eq_true h).1

/-- Sets, part by part. -/
theorem tb_or (x y : Int) (hx : setB x = true) (hy : setB y = true) (k : Nat) (hk : k < 8) : tb (bits .or .i64 x y) k = (tb x k || tb y k) := by
  rw [← lsb_tb _ k (set_nonneg (or_set x y hx hy).2) (by omega), of_or, BitVec.getLsbD_or, lsb_tb _ k (set_nonneg hx) (by omega), lsb_tb _ k (set_nonneg hy) (by omega)]
theorem of_and (x y : Int) : BitVec.ofInt 64 (bits .and .i64 x y) = BitVec.ofInt 64 x &&& BitVec.ofInt 64 y := ofwrap _
theorem of_andNot (x y : Int) : BitVec.ofInt 64 (bits .andNot .i64 x y) = BitVec.ofInt 64 x &&& ~~~BitVec.ofInt 64 y := ofwrap _
theorem and_set (x y : Int) (hx : setB x = true) : setB (bits .and .i64 x y) = true := by
  have h1 := of_decide_eq_true hx
  obtain ⟨a, rfl⟩ := Int.eq_ofNat_of_zero_le h1.1
  have e1 : bits .and .i64 (a : Int) y = IntKind.i64.wrap (((BitVec.ofInt 64 (a : Int) &&& BitVec.ofInt 64 y).toNat : Nat) : Int) := rfl
  have hle : (BitVec.ofInt 64 (a : Int) &&& BitVec.ofInt 64 y).toNat ≤ a := by
    rw [BitVec.toNat_and, BitVec.ofInt_natCast, BitVec.toNat_ofNat, Nat.mod_eq_of_lt (by omega)]
    exact Nat.and_le_left
  rw [e1, small _ (by omega)]
  exact decide_eq_true ⟨by omega, by omega⟩
theorem andNot_set (x y : Int) (hx : setB x = true) : setB (bits .andNot .i64 x y) = true := by
  have h1 := of_decide_eq_true hx
  obtain ⟨a, rfl⟩ := Int.eq_ofNat_of_zero_le h1.1
  have e1 : bits .andNot .i64 (a : Int) y = IntKind.i64.wrap (((BitVec.ofInt 64 (a : Int) &&& ~~~BitVec.ofInt 64 y).toNat : Nat) : Int) := rfl
  have hle : (BitVec.ofInt 64 (a : Int) &&& ~~~BitVec.ofInt 64 y).toNat ≤ a := by
    rw [BitVec.toNat_and, BitVec.ofInt_natCast, BitVec.toNat_ofNat, Nat.mod_eq_of_lt (by omega)]
    exact Nat.and_le_left
  rw [e1, small _ (by omega)]
  exact decide_eq_true ⟨by omega, by omega⟩
theorem tb_and (x y : Int) (hx : setB x = true) (hy : setB y = true) (k : Nat) (hk : k < 8) : tb (bits .and .i64 x y) k = (tb x k && tb y k) := by
  rw [← lsb_tb _ k (set_nonneg (and_set x y hx)) (by omega), of_and, BitVec.getLsbD_and, lsb_tb _ k (set_nonneg hx) (by omega), lsb_tb _ k (set_nonneg hy) (by omega)]
theorem tb_andNot (x y : Int) (hx : setB x = true) (hy : setB y = true) (k : Nat) (hk : k < 8) : tb (bits .andNot .i64 x y) k = (tb x k && !tb y k) := by
  rw [← lsb_tb _ k (set_nonneg (andNot_set x y hx)) (by omega), of_andNot, BitVec.getLsbD_and, BitVec.getLsbD_not, lsb_tb _ k (set_nonneg hx) (by omega), lsb_tb _ k (set_nonneg hy) (by omega)]
  simp [show k < 64 by omega]
theorem tb_bit_fin : ∀ p : Fin 8, ∀ k : Fin 8, tb (bitI (p.val : Int)) k.val = decide (p.val = k.val) := by decide +kernel
theorem tb_bit (p k : Nat) (hp : p < 8) (hk : k < 8) : tb (bitI (p : Int)) k = decide (p = k) := tb_bit_fin ⟨p, hp⟩ ⟨k, hk⟩
/-- A set within another one, part by part. -/
theorem in_tb (x y : Int) (hx : setB x = true) (hy : setB y = true) : inB x y = true ↔ ∀ k, k < 8 → tb x k = true → tb y k = true := by
  unfold inB
  rw [beq_iff_eq]
  constructor
  · intro h k hk h1
    have := tb_andNot x y hx hy k hk
    rw [h, h1] at this
    have h0 : tb 0 k = false := by
      rcases (by omega : k = 0 ∨ k = 1 ∨ k = 2 ∨ k = 3 ∨ k = 4 ∨ k = 5 ∨ k = 6 ∨ k = 7) with rfl | rfl | rfl | rfl | rfl | rfl | rfl | rfl <;> decide
    rw [h0] at this
    cases h2 : tb y k
    · rw [h2] at this; cases this
    · rfl
  · intro h
    have hs := andNot_set x y hx
    rw [andNotz]
    apply BitVec.eq_of_getLsbD_eq
    intro i hi
    rw [BitVec.getLsbD_and, BitVec.getLsbD_not, lsb_tb _ i (set_nonneg hx) hi, lsb_tb _ i (set_nonneg hy) hi, BitVec.getLsbD_zero]
    by_cases h8 : i < 8
    · cases h1 : tb x i
      · rfl
      · rw [h i h8 h1]; simp
    · rw [tb_far x i hx (by omega)]; simp
end Go.Proofs.Ytnbleebilmghcab
