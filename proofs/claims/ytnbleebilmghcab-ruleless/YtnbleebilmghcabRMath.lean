/- Plain facts on sets of eight parts as numbers from 0 to 255: nothing of the program is in them. -/
import Derived.WalkKit
set_option maxRecDepth 100000
set_option linter.unnecessarySimpa false
set_option linter.unusedSimpArgs false
set_option linter.unusedVariables false
namespace Go.Proofs.Ytnbleebilmghcab
open Go.RowKit

/-- Part k is in the set n. -/
def tb (n : Int) (k : Nat) : Bool := n / ((2 ^ k : Nat) : Int) % 2 == 1
/-- The number of a list of bits, the least first. -/
def numL : List Bool → Int
  | [] => 0
  | b :: r => 2 * numL r + (if b then 1 else 0)
/-- The parts below k of the set n. -/
def lstTo (n : Int) (k : Nat) : List Int := ((List.range k).filter (fun j => tb n j)).map Int.ofNat
/-- How many ones: as math/bits reckons it. -/
def oc1 (x : Int) : Int := IntKind.u64.wrap (bits BinOp.and IntKind.u64 (x / 2) 6148914691236517205 + bits BinOp.and IntKind.u64 x 6148914691236517205)
def oc2 (x : Int) : Int := IntKind.u64.wrap (bits BinOp.and IntKind.u64 (x / 4) 3689348814741910323 + bits BinOp.and IntKind.u64 x 3689348814741910323)
def oc3 (x : Int) : Int := bits BinOp.and IntKind.u64 (IntKind.u64.wrap (x / 16 + x)) 1085102592571150095
def oc4 (x : Int) : Int := IntKind.u64.wrap (x + x / 256)
def oc5 (x : Int) : Int := IntKind.u64.wrap (x + x / 65536)
def oc6 (x : Int) : Int := IntKind.u64.wrap (x + x / 4294967296)
def oc (x : Int) : Int := bits BinOp.and IntKind.i64 (wrap64 (oc6 (oc5 (oc4 (oc3 (oc2 (oc1 x))))))) 127

def bitI (k : Int) : Int := if 0 ≤ k ∧ k < 8 then ((2 ^ k.toNat : Nat) : Int) else 0

theorem fin_of (n : Int) (h0 : 0 ≤ n) (h1 : n ≤ 255) : ∃ m : Fin 256, n = (m.val : Int) := ⟨⟨n.toNat, by omega⟩, by simp; omega⟩

theorem oc_fin : ∀ m : Fin 256, oc (m.val : Int) = ((lstTo (m.val : Int) 8).length : Int) := by decide +kernel
theorem oc_lst (n : Int) (h0 : 0 ≤ n) (h1 : n ≤ 255) : oc n = ((lstTo n 8).length : Int) := by
  obtain ⟨m, rfl⟩ := fin_of n h0 h1; exact oc_fin m
theorem and255_fin : ∀ m : Fin 256, bits .and .i64 (m.val : Int) 255 = (m.val : Int) := by decide +kernel
theorem and255 (n : Int) (h0 : 0 ≤ n) (h1 : n ≤ 255) : bits .and .i64 n 255 = n := by
  obtain ⟨m, rfl⟩ := fin_of n h0 h1; exact and255_fin m
theorem has_fin : ∀ m : Fin 256, ∀ k : Fin 8, (bits .and .i64 (m.val : Int) (bitI (k.val : Int)) != 0) = tb (m.val : Int) k.val := by decide +kernel
theorem has_tb (n : Int) (k : Nat) (h0 : 0 ≤ n) (h1 : n ≤ 255) (hk : k < 8) : (bits .and .i64 n (bitI (k : Int)) != 0) = tb n k := by
  obtain ⟨m, rfl⟩ := fin_of n h0 h1; exact has_fin m ⟨k, hk⟩
theorem lst_len (n : Int) (k : Nat) : (lstTo n k).length ≤ k := by
  unfold lstTo; rw [List.length_map]; exact Nat.le_trans (List.length_filter_le _ _) (by simp)
theorem lst_succ (n : Int) (k : Nat) : lstTo n (k + 1) = if tb n k then lstTo n k ++ [(k : Int)] else lstTo n k := by
  unfold lstTo; rw [List.range_succ, List.filter_append, List.map_append]; by_cases h : tb n k = true <;> simp [h]
theorem numL_bd (l : List Bool) : 0 ≤ numL l ∧ numL l < ((2 ^ l.length : Nat) : Int) := by
  induction l with
  | nil => simp [numL]
  | cons b r ih =>
    have e : 2 ^ (r.length + 1) = 2 * 2 ^ r.length := by rw [Nat.pow_succ]; omega
    simp only [numL, List.length_cons, e]
    generalize 2 ^ r.length = p at *
    cases b <;> simp <;> omega
def tbs (n : Int) : List Bool := [tb n 0, tb n 1, tb n 2, tb n 3, tb n 4, tb n 5, tb n 6, tb n 7]
theorem with_fin : ∀ m : Fin 256, ∀ k : Fin 8, numL ((tbs (m.val : Int)).set k.val true) = bits .or .i64 (m.val : Int) (bitI (k.val : Int)) := by decide +kernel
theorem without_fin : ∀ m : Fin 256, ∀ k : Fin 8, numL ((tbs (m.val : Int)).set k.val false) = bits .andNot .i64 (m.val : Int) (bitI (k.val : Int)) := by decide +kernel
theorem num_fin : ∀ m : Fin 256, numL (tbs (m.val : Int)) = (m.val : Int) ∧ bits .or .i64 (m.val : Int) 0 = (m.val : Int) ∧ bits .andNot .i64 (m.val : Int) 0 = (m.val : Int) ∧ bits .and .i64 (m.val : Int) 0 = 0 := by decide +kernel
end Go.Proofs.Ytnbleebilmghcab
