/- Plain facts on right systems: nothing of the program is in them. -/
import Derived.Test.YtnbleebilmghcabRMay
set_option maxRecDepth 100000
set_option linter.unnecessarySimpa false
set_option linter.unusedSimpArgs false
set_option linter.unusedVariables false
namespace Go.Proofs.Ytnbleebilmghcab
open Go.RowKit

theorem wrapz (r : BitVec 64) : IntKind.i64.wrap (r.toNat : Int) = 0 ↔ r = 0#64 := by
  rw [IntKind.wrap_i64]
  have := r.isLt
  constructor
  · intro h
    apply BitVec.eq_of_toNat_eq
    simp
    omega
  · rintro rfl; simp
theorem ofwrap (r : BitVec 64) : BitVec.ofInt 64 (IntKind.i64.wrap (r.toNat : Int)) = r := by
  rw [IntKind.wrap_i64]
  have := r.isLt
  apply BitVec.eq_of_toNat_eq
  rw [BitVec.toNat_ofInt]
  simp
  omega
theorem andz (x y : Int) : bits .and .i64 x y = 0 ↔ BitVec.ofInt 64 x &&& BitVec.ofInt 64 y = 0#64 := wrapz _
theorem andNotz (x y : Int) : bits .andNot .i64 x y = 0 ↔ BitVec.ofInt 64 x &&& ~~~BitVec.ofInt 64 y = 0#64 := wrapz _
theorem of_or (x y : Int) : BitVec.ofInt 64 (bits .or .i64 x y) = BitVec.ofInt 64 x ||| BitVec.ofInt 64 y := ofwrap _
theorem small (n : Nat) (h : n < 256) : IntKind.i64.wrap (n : Int) = (n : Int) := by rw [IntKind.wrap_i64]; omega

/-- Two right sets together are one. -/
theorem or_set (x y : Int) (hx : setB x = true) (hy : setB y = true) : bits .or .i64 x y = ((x.toNat ||| y.toNat : Nat) : Int) ∧ setB (bits .or .i64 x y) = true := by
  have h1 := of_decide_eq_true hx
  have h2 := of_decide_eq_true hy
  obtain ⟨a, rfl⟩ := Int.eq_ofNat_of_zero_le h1.1
  obtain ⟨b, rfl⟩ := Int.eq_ofNat_of_zero_le h2.1
  have hlt : a ||| b < 2 ^ 8 := Nat.or_lt_two_pow (by omega) (by omega)
  have e : bits .or .i64 (a : Int) (b : Int) = ((a ||| b : Nat) : Int) := by
    have e1 : bits .or .i64 (a : Int) (b : Int) = IntKind.i64.wrap (((BitVec.ofInt 64 (a : Int) ||| BitVec.ofInt 64 (b : Int)).toNat : Nat) : Int) := rfl
    rw [e1, BitVec.ofInt_natCast, BitVec.ofInt_natCast, BitVec.toNat_or, BitVec.toNat_ofNat, BitVec.toNat_ofNat, Nat.mod_eq_of_lt (by omega), Nat.mod_eq_of_lt (by omega)]
    exact small _ (by omega)
  refine ⟨by simpa using e, ?_⟩
  rw [e]
  exact decide_eq_true ⟨by omega, by omega⟩

theorem bit_set (k : Int) : setB (bitI k) = true := by
  by_cases h : partB k = true
  · rcases bit_cases k h with rfl | rfl | rfl | rfl | rfl | rfl | rfl | rfl <;> decide
  · have e : bitI k = 0 := by unfold bitI; rw [if_neg]; simpa [partB] using h
    rw [e]; decide
theorem bit_pos (k : Int) (h : partB k = true) : bitI k ≠ 0 := by
  rcases bit_cases k h with rfl | rfl | rfl | rfl | rfl | rfl | rfl | rfl <;> decide

theorem or_zero (x y : Int) (hx : setB x = true) (hy : setB y = true) (h : bits .or .i64 x y = 0) : x = 0 ∧ y = 0 := by
  rw [(or_set x y hx hy).1] at h
  have h1 := of_decide_eq_true hx
  have h2 := of_decide_eq_true hy
  have h3 : x.toNat ||| y.toNat = 0 := by omega
  rw [Nat.or_eq_zero_iff] at h3
  omega
theorem or_left (x : Int) (hx : setB x = true) : bits .or .i64 0 x = x := by
  rw [(or_set 0 x (by decide) hx).1]
  have h1 := of_decide_eq_true hx
  simp; omega

/-- All acts ahead of n are right. -/
def okN (al : Int) (a : Nat → ActI) (n : Nat) : Prop := ∀ j, j < n → waAt al a j = 0
theorem fb_zero (al : Int) (a : Nat → ActI) : ∀ n j, (fbTo al a n j).1 = 0 ↔ ∀ i, i < n → waAt al a (j + i) = 0
  | 0, j => by simp [fbTo]
  | n + 1, j => by
    unfold fbTo
    by_cases h : waAt al a j = 0
    · rw [if_pos h, fb_zero al a n (j + 1)]
      constructor
      · intro hh i hi
        cases i with
        | zero => exact h
        | succ i => have := hh i (by omega); rwa [show j + 1 + i = j + (i + 1) by omega] at this
      · intro hh i hi
        have := hh (i + 1) (by omega)
        rwa [show j + (i + 1) = j + 1 + i by omega] at this
    · rw [if_neg h]
      constructor
      · intro hh; exact absurd hh h
      · intro hh; exact absurd (hh 0 (by omega)) h
/-- A right system. -/
theorem right_spec (m al no : Int) (a : Nat → ActI) (len : Nat) : (wrF m al no a len).1 = 0 ↔ headB m al no = true ∧ len ≤ 8 ∧ okN al a len := by
  unfold wrF
  cases h : headB m al no
  · simp
  · by_cases hl : 8 < len
    · simp [hl]; intro h8; omega
    · simp only [Bool.true_eq_false, if_false, hl, fb_zero, Nat.zero_add, true_and]
      exact ⟨fun hh => ⟨by omega, hh⟩, fun hh => hh.2⟩

theorem wa_range (k p f n r : Int) (h : waI k p f n r = 0) : rgB k p f n = true ∧ 1 ≤ k ∧ k ≤ 7 := by
  unfold waI at h
  split at h
  · simp at h
  · split at h
    · simp at h
    · rename_i h1 h2
      exact ⟨by simpa using h2, by omega, by omega⟩
theorem rd_set (k p f : Int) : setB (rdI k p f) = true := by
  unfold rdI
  split
  · exact (or_set _ _ (by decide) (bit_set f)).2
  · split
    · exact (or_set _ _ (or_set _ _ (by decide) (bit_set f)).2 (bit_set p)).2
    · split
      · exact (or_set _ _ (by decide) (bit_set p)).2
      · decide
theorem wr_set (k p f n : Int) (h : rgB k p f n = true) : setB (wrI k p) = true := by
  unfold wrI
  split
  · exact (or_set _ _ (by decide) (bit_set p)).2
  · split
    · rename_i h1 h7
      subst h7
      have h2 : (setB p && valB n) = true := by simpa [rgB] using h
      rw [Bool.and_eq_true] at h2
      exact h2.1
    · decide
theorem rdTo_set (a : Nat → ActI) : ∀ j, setB (rdTo a j) = true
  | 0 => rfl
  | j + 1 => (or_set _ _ (rdTo_set a j) (rd_set _ _ _)).2
theorem wrTo_set (al : Int) (a : Nat → ActI) : ∀ j, okN al a j → setB (wrTo a j) = true
  | 0, _ => rfl
  | j + 1, h => (or_set _ _ (wrTo_set al a j (fun i hi => h i (by omega))) (wr_set _ _ _ _ (wa_range _ _ _ _ _ (h j (by omega))).1)).2
/-- Who writes nothing moves nothing. -/
theorem moves_writes (al : Int) (a : Nat → ActI) : ∀ j, okN al a j → wrTo a j = 0 → mvTo al a j = false
  | 0, _, _ => rfl
  | j + 1, h, hw => by
    have hr := (wa_range _ _ _ _ _ (h j (by omega))).1
    obtain ⟨h1, h2⟩ := or_zero _ _ (wrTo_set al a j (fun i hi => h i (by omega))) (wr_set _ _ _ _ hr) hw
    have ih := moves_writes al a j (fun i hi => h i (by omega)) h1
    show (mvTo al a j || mvB (a j).k (a j).p al) = false
    rw [ih, Bool.false_or]
    generalize a j = y at *
    obtain ⟨k, p, f, n⟩ := y
    dsimp only at *
    have key : ∀ k : Int, (k = 1 ∨ k = 2 ∨ k = 5) → rgB k p f n = true → wrI k p = 0 → False := by
      rintro k (rfl | rfl | rfl) hr h2 <;> simp [wrI, or_left _ (bit_set p)] at h2 <;> simp [rgB] at hr
      · exact bit_pos p hr.1 h2
      · exact bit_pos p hr.1 h2
      · exact bit_pos p hr h2
    unfold mvB
    by_cases h12 : k = 1 ∨ k = 2
    · exact absurd (key k (by omega) hr h2) id
    · by_cases h5 : k = 5
      · exact absurd (key k (by omega) hr h2) id
      · rw [if_neg h12]; simp [h5]

theorem clN_comm (r u : Int) (m l : Bool) (r' u' : Int) (m' l' : Bool) : clN r u m l r' u' m' l' = clN r' u' m' l' r u m l := by
  unfold clN
  cases m <;> cases m' <;> cases l <;> cases l' <;> simp [Bool.or_comm]
theorem clB_comm (al : Int) (a : Nat → ActI) (len : Nat) (al' : Int) (a' : Nat → ActI) (len' : Nat) : clB al a len al' a' len' = clB al' a' len' al a len := clN_comm _ _ _ _ _ _ _ _
theorem ds_zero (r u : Int) : dsB 0 r u = false := by
  unfold dsB
  have : bits .and .i64 0 (bits .or .i64 r u) = 0 := by rw [andz]; simp
  simp [this]
end Go.Proofs.Ytnbleebilmghcab
