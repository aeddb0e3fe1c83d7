/- Math, Parts, Ref, PRows, PGet, PRight, PWrong, PWrong2 -/
import Derived.WalkKit
import Derived.Test.YtnbleebilmghcabRows
import Derived.WalkSpells
import Derived.Handy
import Derived.Deep.RegionHeld3
import Derived.Deep.DrawnRows
import Derived.Deep.QuietTactic
import Derived.BigQuiet
import Derived.Deep.DeepCutAuto
import Derived.Test.YtnbleebilmghcabQA
set_option linter.all false
namespace Go.Proofs.Ytnbleebilmghcab
open Go.RowKit
def tb (n : Int) (k : Nat) : Bool := n / ((2 ^ k : Nat) : Int) % 2 == 1
def numL : List Bool → Int
  | [] => 0
  | b :: r => 2 * numL r + (if b then 1 else 0)
def lstTo (n : Int) (k : Nat) : List Int := ((List.range k).filter (fun j => tb n j)).map Int.ofNat
def oc1 (x : Int) : Int := IntKind.u64.wrap (bits BinOp.and IntKind.u64 (x / 2) 6148914691236517205 + bits BinOp.and IntKind.u64 x 6148914691236517205)
def oc2 (x : Int) : Int := IntKind.u64.wrap (bits BinOp.and IntKind.u64 (x / 4) 3689348814741910323 + bits BinOp.and IntKind.u64 x 3689348814741910323)
def oc3 (x : Int) : Int := bits BinOp.and IntKind.u64 (IntKind.u64.wrap (x / 16 + x)) 1085102592571150095
def oc4 (x : Int) : Int := IntKind.u64.wrap (x + x / 256)
def oc5 (x : Int) : Int := IntKind.u64.wrap (x + x / 65536)
def oc6 (x : Int) : Int := IntKind.u64.wrap (x + x / 4294967296)
def oc (x : Int) : Int := bits BinOp.and IntKind.i64 (wrap64 (oc6 (oc5 (oc4 (oc3 (oc2 (oc1 x))))))) 127
def bitI (k : Int) : Int := if 0 ≤ k ∧ k < 8 then ((2 ^ k.toNat : Nat) : Int) else 0
theorem fin_of (n : Int) (h0 : 0 ≤ n) (h1 : n ≤ 255) : ∃ m : Fin 256, n = (m.val : Int) := ⟨⟨n.toNat, by omega⟩, by simp; omega⟩
theorem oc_fin : ∀ m : Fin 256, oc (m.val : Int) = ((lstTo (m.val : Int) 8).length : Int) := by decide +kernel
theorem oc_lst (n : Int) (h0 : 0 ≤ n) (h1 : n ≤ 255) : oc n = ((lstTo n 8).length : Int) := by
  obtain ⟨m, rfl⟩ := fin_of n h0 h1; exact oc_fin m
theorem and255_fin : ∀ m : Fin 256, bits .and .i64 (m.val : Int) 255 = (m.val : Int) := by decide +kernel
theorem and255 (n : Int) (h0 : 0 ≤ n) (h1 : n ≤ 255) : bits .and .i64 n 255 = n := by
  obtain ⟨m, rfl⟩ := fin_of n h0 h1; exact and255_fin m
theorem has_fin : ∀ m : Fin 256, ∀ k : Fin 8, (bits .and .i64 (m.val : Int) (bitI (k.val : Int)) != 0) = tb (m.val : Int) k.val := by decide +kernel
theorem has_tb (n : Int) (k : Nat) (h0 : 0 ≤ n) (h1 : n ≤ 255) (hk : k < 8) : (bits .and .i64 n (bitI (k : Int)) != 0) = tb n k := by
  obtain ⟨m, rfl⟩ := fin_of n h0 h1; exact has_fin m ⟨k, hk⟩
theorem lst_len (n : Int) (k : Nat) : (lstTo n k).length ≤ k := by
  unfold lstTo; rw [List.length_map]; exact Nat.le_trans (List.length_filter_le _ _) (by simp)
theorem lst_succ (n : Int) (k : Nat) : lstTo n (k + 1) = if tb n k then lstTo n k ++ [(k : Int)] else lstTo n k := by
  unfold lstTo; rw [List.range_succ, List.filter_append, List.map_append]; by_cases h : tb n k = true <;> simp [h]
theorem numL_bd (l : List Bool) : 0 ≤ numL l ∧ numL l < ((2 ^ l.length : Nat) : Int) := by
  induction l with
  | nil => simp [numL]
  | cons b r ih =>
    have e : 2 ^ (r.length + 1) = 2 * 2 ^ r.length := by rw [Nat.pow_succ]; omega
    simp only [numL, List.length_cons, e]
    generalize 2 ^ r.length = p at *
    cases b <;> simp <;> omega
def tbs (n : Int) : List Bool := [tb n 0, tb n 1, tb n 2, tb n 3, tb n 4, tb n 5, tb n 6, tb n 7]
theorem with_fin : ∀ m : Fin 256, ∀ k : Fin 8, numL ((tbs (m.val : Int)).set k.val true) = bits .or .i64 (m.val : Int) (bitI (k.val : Int)) := by decide +kernel
theorem without_fin : ∀ m : Fin 256, ∀ k : Fin 8, numL ((tbs (m.val : Int)).set k.val false) = bits .andNot .i64 (m.val : Int) (bitI (k.val : Int)) := by decide +kernel
theorem num_fin : ∀ m : Fin 256, numL (tbs (m.val : Int)) = (m.val : Int) ∧ bits .or .i64 (m.val : Int) 0 = (m.val : Int) ∧ bits .andNot .i64 (m.val : Int) 0 = (m.val : Int) ∧ bits .and .i64 (m.val : Int) 0 = 0 := by decide +kernel
end Go.Proofs.Ytnbleebilmghcab
namespace Go.Proofs.Ytnbleebilmghcab
open Go.RowKit
def setB (n : Int) : Bool := decide (0 ≤ n ∧ n ≤ 255)
def partB (n : Int) : Bool := decide (0 ≤ n ∧ n < 8)
def valB (n : Int) : Bool := decide (-1000000 ≤ n ∧ n ≤ 1000000)
def clipI (n : Int) : Int := if n < -1000000 then -1000000 else if 1000000 < n then 1000000 else n
set_option maxHeartbeats 400000 in
theorem set_any (n : Int) (w : World) :
    Calls Try.prog 33 #[.int .i64 n] w fun e w' => e = .returned (.bool (setB n)) ∧ w' = w := by
  by_cases h0 : 0 ≤ n <;> by_cases h1 : n ≤ 255
  all_goals
    go_enter Try.func33, Try.ntmps33
    go_wp2
    go_ret
    exact ⟨by simp [setB, h0, h1], rfl⟩
set_option maxHeartbeats 400000 in
theorem rset_any (n : Int) (w : World) :
    Calls Try.prog 77 #[.int .i64 n] w fun e w' => e = .returned (.bool (setB n)) ∧ w' = w := by
  by_cases h0 : 0 ≤ n <;> by_cases h1 : n ≤ 255
  all_goals
    go_enter Try.func77, Try.ntmps77
    go_wp2
    go_ret
    exact ⟨by simp [setB, h0, h1], rfl⟩
set_option maxHeartbeats 400000 in
theorem part_any (n : Int) (w : World) :
    Calls Try.prog 80 #[.int .i64 n] w fun e w' => e = .returned (.bool (partB n)) ∧ w' = w := by
  by_cases h0 : 0 ≤ n <;> by_cases h1 : n < 8
  all_goals
    go_enter Try.func80, Try.ntmps80
    go_wp2
    go_ret
    exact ⟨by simp [partB, h0, h1], rfl⟩
set_option maxHeartbeats 400000 in
theorem value_any (n : Int) (w : World) :
    Calls Try.prog 81 #[.int .i64 n] w fun e w' => e = .returned (.bool (valB n)) ∧ w' = w := by
  by_cases h0 : -1000000 ≤ n <;> by_cases h1 : n ≤ 1000000
  all_goals
    go_enter Try.func81, Try.ntmps81
    go_wp2
    go_ret
    exact ⟨by simp [valB, h0, h1], rfl⟩
set_option maxHeartbeats 400000 in
theorem rvalue_any (n : Int) (w : World) :
    Calls Try.prog 21 #[.int .i64 n] w fun e w' => e = .returned (.bool (valB n)) ∧ w' = w := by
  by_cases h0 : -1000000 ≤ n <;> by_cases h1 : n ≤ 1000000
  all_goals
    go_enter Try.func21, Try.ntmps21
    go_wp2
    go_ret
    exact ⟨by simp [valB, h0, h1], rfl⟩
set_option maxHeartbeats 400000 in
theorem clip_any (n : Int) (w : World) :
    Calls Try.prog 115 #[.int .i64 n] w fun e w' => e = .returned (.int .i64 (clipI n)) ∧ w' = w := by
  by_cases h0 : n < -1000000 <;> by_cases h1 : 1000000 < n
  · omega
  all_goals
    go_enter Try.func115, Try.ntmps115
    go_wp2
    go_ret
    exact ⟨by unfold clipI; (repeat' split) <;> first | rfl | omega, rfl⟩
theorem bit_cases (k : Int) (h : partB k = true) : k = 0 ∨ k = 1 ∨ k = 2 ∨ k = 3 ∨ k = 4 ∨ k = 5 ∨ k = 6 ∨ k = 7 := by
  have := of_decide_eq_true h
  omega
set_option maxHeartbeats 400000 in
theorem bit_any (k : Int) (w : World) :
    Calls Try.prog 82 #[.int .i64 k] w fun e w' => e = .returned (.int .i64 (bitI k)) ∧ w' = w := by
  by_cases h : partB k = true
  · rcases bit_cases k h with rfl | rfl | rfl | rfl | rfl | rfl | rfl | rfl
    all_goals
      clear h
      go_enter Try.func82, Try.ntmps82
      go_wp2
      go_ret
      exact ⟨rfl, rfl⟩
  · have h' : partB k = false := by simpa using h
    clear h
    go_enter Try.func82, Try.ntmps82
    go_wp2_with (go_at_call 80; refine (part_any _ _).mono ?_; rintro e w' ⟨rfl, rfl⟩)
    go_ret
    exact ⟨by have := of_decide_eq_false h'; simp [bitI, this], rfl⟩
def meetsB (a n h : Int) : Bool := bits .andNot .i64 a h == 0 && bits .and .i64 n h == 0
set_option maxHeartbeats 400000 in
theorem meets_any (a n h : Int) (w : World) :
    Calls Try.prog 74 #[.agg #[.int .i64 a, .int .i64 n], .int .i64 h] w fun e w' => e = .returned (.bool (meetsB a n h)) ∧ w' = w.alloc (.cells #[.int .i64 a, .int .i64 n] 23) := by
  go_enter Try.func74, Try.ntmps74
  go_wp2
  all_goals
    go_ret
    exact ⟨by simp [meetsB, *], rfl⟩
set_option maxHeartbeats 400000 in
theorem has_any (a k : Int) (w : World) :
    Calls Try.prog 60 #[.int .i64 a, .int .i64 k] w fun e w' => e = .returned (.bool (bits .and .i64 a (bitI k) != 0)) ∧ w' = w := by
  go_enter Try.func60, Try.ntmps60
  go_wp2_with (go_at_call 82; refine (bit_any _ _).mono ?_; rintro e w' ⟨rfl, rfl⟩)
  go_ret
  exact ⟨rfl, rfl⟩
set_option maxHeartbeats 400000 in
theorem with_any (a k : Int) (w : World) :
    Calls Try.prog 58 #[.int .i64 a, .int .i64 k] w fun e w' => e = .returned (.int .i64 (bits .or .i64 a (bitI k))) ∧ w' = w := by
  go_enter Try.func58, Try.ntmps58
  go_wp2_with (go_at_call 82; refine (bit_any _ _).mono ?_; rintro e w' ⟨rfl, rfl⟩)
  go_ret
  exact ⟨rfl, rfl⟩
set_option maxHeartbeats 400000 in
theorem without_any (a k : Int) (w : World) :
    Calls Try.prog 59 #[.int .i64 a, .int .i64 k] w fun e w' => e = .returned (.int .i64 (bits .andNot .i64 a (bitI k))) ∧ w' = w := by
  go_enter Try.func59, Try.ntmps59
  go_wp2_with (go_at_call 82; refine (bit_any _ _).mono ?_; rintro e w' ⟨rfl, rfl⟩)
  go_ret
  exact ⟨rfl, rfl⟩
end Go.Proofs.Ytnbleebilmghcab
namespace Go.Proofs.Ytnbleebilmghcab
open Go.RowKit
theorem ret_int {k : IntKind} {a b : Int} (h : a = b) : Ending.returned (.int k a) = .returned (.int k b) := by rw [h]
theorem hide {p : Prop} (h : p) : Hid p := h
theorem unhide {p : Prop} (h : Hid p) : p := h
set_option maxHeartbeats 400000 in
theorem oc_any (x : Int) (w : World) (_ : 0 ≤ x) (_ : x ≤ 255) :
    Calls Try.prog 121 #[.int .u64 x] w fun e w' => e = .returned (.int .i64 (oc x)) ∧ w' = w := by
  go_enter Try.func121, Try.ntmps121
  go_wp2
  go_ret
  exact ⟨ret_int rfl, rfl⟩
set_option maxHeartbeats 400000 in
theorem count_any (a : Int) (w : World) (h0 : 0 ≤ a) (h1 : a ≤ 255) :
    Calls Try.prog 92 #[.int .i64 a] w fun e w' => e = .returned (.int .i64 ((lstTo a 8).length : Int)) ∧ w' = w := by
  have e1 := and255 a h0 h1
  have e2 : Hid (oc a = ((lstTo a 8).length : Int)) := oc_lst a h0 h1
  have e3 : IntKind.u64.wrap a = a := by rw [IntKind.wrap_u64]; omega
  go_enter Try.func92, Try.ntmps92
  go_wp2_with (first | (go_at_call 121; refine (oc_any _ _ (by omega) (by omega)).mono ?_; rintro e w' ⟨rfl, rfl⟩) | go_in)
  go_ret
  exact ⟨ret_int e2.out, rfl⟩
theorem numL_step (b : Bool) (r : List Bool) : numL (b :: r) = 2 * numL r + if b then 1 else 0 := rfl
def arr (n : Int) : Array Value := #[.bool (tb n 0), .bool (tb n 1), .bool (tb n 2), .bool (tb n 3), .bool (tb n 4), .bool (tb n 5), .bool (tb n 6), .bool (tb n 7)]
theorem tb_eqs (n : Int) : (n % 2 == 1) = tb n 0 ∧ (n / 2 % 2 == 1) = tb n 1 ∧ (n / 2 / 2 % 2 == 1) = tb n 2 ∧ (n / 2 / 2 / 2 % 2 == 1) = tb n 3 ∧
    (n / 2 / 2 / 2 / 2 % 2 == 1) = tb n 4 ∧ (n / 2 / 2 / 2 / 2 / 2 % 2 == 1) = tb n 5 ∧ (n / 2 / 2 / 2 / 2 / 2 / 2 % 2 == 1) = tb n 6 ∧ (n / 2 / 2 / 2 / 2 / 2 / 2 / 2 % 2 == 1) = tb n 7 := by
  have key : ∀ x y : Int, x = y → (x % 2 == 1) = (y % 2 == 1) := fun x y h => by rw [h]
  refine ⟨?_, ?_, ?_, ?_, ?_, ?_, ?_, ?_⟩ <;> exact key _ _ (by simp; try omega)
set_option maxHeartbeats 400000 in
theorem bits_any (n : Int) (w : World) (h0 : 0 ≤ n) (h1 : n ≤ 255) :
    Calls Try.prog 45 #[.int .i64 n] w fun e w' => e = .returned (.agg (arr n)) ∧ w' = (w.alloc (.cells (arr n) 92)).alloc (.cells (arr n) 92) := by
  go_enter Try.func45, Try.ntmps45
  go_wp2
  go_rounds 9
  obtain ⟨e0, e1, e2, e3, e4, e5, e6, e7⟩ := tb_eqs n
  simp only [e0, e1, e2, e3, e4, e5, e6, e7]
  exact bodyPost_ret (v := .agg (arr n)) (by simp [results, Try.results45, go_sem, arr]) rfl ⟨rfl, rfl⟩
set_option maxHeartbeats 400000 in
theorem num_any (b0 b1 b2 b3 b4 b5 b6 b7 : Bool) (w : World) :
    Calls Try.prog 99 #[.agg #[.bool b0, .bool b1, .bool b2, .bool b3, .bool b4, .bool b5, .bool b6, .bool b7]] w fun e w' => e = .returned (.int .i64 (numL [b0, b1, b2, b3, b4, b5, b6, b7])) ∧
      w' = w.alloc (.cells #[.bool b0, .bool b1, .bool b2, .bool b3, .bool b4, .bool b5, .bool b6, .bool b7] 92) := by
  go_enter Try.func99, Try.ntmps99
  go_wp2
  go_loop [3, 4] (fun n k => ∃ j : Nat, j ≤ 8 ∧ k = .int .i64 (7 - (j : Int)) ∧ n = .int .i64 (numL ([b0, b1, b2, b3, b4, b5, b6, b7].drop (8 - j)))) (fun _ k => (intOf k + 1).toNat)
  case atStart => exact ⟨0, by omega, rfl, rfl⟩
  case round =>
    obtain ⟨j, hj, rfl, rfl⟩ := hrel
    have hb := numL_bd ([b0, b1, b2, b3, b4, b5, b6, b7].drop (8 - j))
    obtain ⟨m, hm⟩ : ∃ m, m = numL ([b0, b1, b2, b3, b4, b5, b6, b7].drop (8 - j)) := ⟨_, rfl⟩
    rw [← hm] at hb ⊢
    obtain ⟨t, ht⟩ : ∃ t, t = j + 1 := ⟨_, rfl⟩
    rcases (by omega : j = 0 ∨ j = 1 ∨ j = 2 ∨ j = 3 ∨ j = 4 ∨ j = 5 ∨ j = 6 ∨ j = 7 ∨ j = 8) with rfl | rfl | rfl | rfl | rfl | rfl | rfl | rfl | rfl
    case inr.inr.inr.inr.inr.inr.inr.inr =>
      have HM : Hid (m = numL [b0, b1, b2, b3, b4, b5, b6, b7]) := hm
      clear hm hb ht
      go_wp2
      go_ret
      exact ⟨ret_int HM.out, rfl⟩
    all_goals
      have hb1 : 0 ≤ m ∧ m < 256 := by simp at hb; omega
      simp only [List.drop_succ_cons, List.drop_zero, Nat.reduceSub, List.drop_nil] at hm
      have HM := hide hm
      have HT := hide ht
      clear hm hb ht
      go_wp2
      all_goals
        go_round
        case rel => exact ⟨t, by rw [unhide HT]; omega, by rw [unhide HT]; rfl, by rw [unhide HT]; simp only [List.drop_succ_cons, List.drop_zero, Nat.reduceSub, Nat.reduceAdd]; rw [numL_step, ← unhide HM]; simp [*]⟩
        case measure => first | (simp [intOf]; done) | (simp [intOf]; omega)
end Go.Proofs.Ytnbleebilmghcab
namespace Go.Proofs.Ytnbleebilmghcab
open Go.RowKit
attribute [local go_sem ↓] Go.wp_at_zero Go.wp_at_succ
structure RowI where
  ix : Int
  gen : Int
  has : Int
  v : Nat → Int
def rowV (x : RowI) : Value := .agg #[.int .i64 x.ix, .int .i64 x.gen, .int .i64 x.has, .int .i64 (x.v 0), .int .i64 (x.v 1), .int .i64 (x.v 2), .int .i64 (x.v 3), .int .i64 (x.v 4), .int .i64 (x.v 5), .int .i64 (x.v 6), .int .i64 (x.v 7)]
structure RowAt (w : World) (b o : Nat) (x : RowI) : Prop where
  c0 : w.cell? ⟨b, o, none⟩ = some (.int .i64 x.ix)
  c1 : w.cell? ⟨b, o + 1, none⟩ = some (.int .i64 x.gen)
  c2 : w.cell? ⟨b, o + 2, none⟩ = some (.int .i64 x.has)
  v : ∀ k, k < 8 → w.cell? ⟨b, o + 3 + k, none⟩ = some (.int .i64 (x.v k))
theorem RowAt.below {w w1 : World} {b o : Nat} {x : RowI} (h : RowAt w b o x) (hb : Below w.heap.size w w1) : RowAt w1 b o x :=
  ⟨keep_below hb h.c0, keep_below hb h.c1, keep_below hb h.c2, fun k hk => keep_below hb (h.v k hk)⟩
def RowsAt (w : World) (A : Option Addr) (n : Nat) (R : Nat → RowI) : Prop := ∀ j, j < n → ∃ b off, A = some ⟨b, off, none⟩ ∧ RowAt w b (off + j * 11) (R j)
theorem RowsAt.below {w w1 : World} {A : Option Addr} {n : Nat} {R : Nat → RowI} (h : RowsAt w A n R) (hb : Below w.heap.size w w1) : RowsAt w1 A n R := fun j hj => by
  obtain ⟨b, off, h0, h1⟩ := h j hj
  exact ⟨b, off, h0, h1.below hb⟩
def isB (x : RowI) (i g : Int) : Bool := x.ix == i && x.gen == g
set_option maxRecDepth 8000 in
set_option maxHeartbeats 400000 in
theorem find1_any (x : RowI) (i g : Int) (b : Nat) (w : World) (h0 : w.cell? ⟨b, 0, none⟩ = some (.int .i64 i)) (h1 : w.cell? ⟨b, 1, none⟩ = some (.int .i64 g)) :
    Calls Try.prog 105 #[rowV x, .pointer (some ⟨b, 0, none⟩)] w fun e w' => e = .returned (.bool (isB x i g)) ∧ Below w.heap.size w w' := by
  have hz : b < w.heap.size := World.block_lt_of_cell? w _ h0
  unfold rowV
  go_enter Try.func105, Try.ntmps105
  go_wp2
  all_goals
    go_ret
    exact ⟨by simp [isB, *], by go_grown⟩
def fIx (R : Nat → RowI) (i g : Int) : Nat → Nat → Int
  | 0, _ => -1
  | n + 1, j => if isB (R j) i g then (j : Int) else fIx R i g n (j + 1)
theorem fIx_step (R : Nat → RowI) (i g : Int) (n j : Nat) (h : j < n) : fIx R i g (n - j) j = if isB (R j) i g then (j : Int) else fIx R i g (n - (j + 1)) (j + 1) := by
  rw [show n - j = (n - (j + 1)) + 1 by omega, fIx]
set_option maxRecDepth 8000 in
set_option maxHeartbeats 1000000 in
theorem indexFind_any (A : Option Addr) (n cap : Nat) (R : Nat → RowI) (i g : Int) (b : Nat) (w : World) (hn : n ≤ 9223372036854775807) (hR : RowsAt w A n R) (h0 : w.cell? ⟨b, 0, none⟩ = some (.int .i64 i)) (h1 : w.cell? ⟨b, 1, none⟩ = some (.int .i64 g)) :
    Calls Try.prog 103 #[.slice A n cap, .func (.func 105) #[] #[.pointer (some ⟨b, 0, none⟩)]] w fun e w' => e = .returned (.int .i64 (fIx R i g n 0)) ∧ Below w.heap.size w w' := by
  have HR := hide hR
  have HB0 := hide h0
  have HB1 := hide h1
  clear hR h0 h1
  go_enter Try.func103, Try.ntmps103
  go_wp2
  go_loopw [8] (fun x wr => ∃ j : Nat, j ≤ n ∧ x = .int .i64 j ∧ fIx R i g n 0 = fIx R i g (n - j) j ∧ Below w.heap.size w wr) (fun x _ => n - (intOf x).toNat)
  case atStart => exact ⟨0, Nat.zero_le _, rfl, rfl, Below.refl _ _⟩
  case round =>
    obtain ⟨j, hj, rfl, hF, hbr⟩ := hrel
    have HF := hide hF
    clear hF
    by_cases hlt : j < n
    · have j0 : (0 : Int) ≤ (j : Int) := by omega
      have j1 : (j : Int) < (n : Int) := by omega
      obtain ⟨b', off, rfl, hrow⟩ := unhide HR j hlt
      have hrow := hrow.below hbr
      have c0 := hrow.c0
      have c1 := hrow.c1
      have c2 := hrow.c2
      have c3 := hrow.v 0 (by omega)
      have c4 := hrow.v 1 (by omega)
      have c5 := hrow.v 2 (by omega)
      have c6 := hrow.v 3 (by omega)
      have c7 := hrow.v 4 (by omega)
      have c8 := hrow.v 5 (by omega)
      have c9 := hrow.v 6 (by omega)
      have c10 := hrow.v 7 (by omega)
      simp only [Nat.add_assoc, Nat.reduceAdd] at c3 c4 c5 c6 c7 c8 c9 c10
      simp only [← Nat.add_assoc] at c3 c4 c5 c6 c7 c8 c9 c10
      have HS := hide (fIx_step R i g n j hlt)
      have HC := hide (find1_any (R j) i g b wr (keep_below hbr (unhide HB0)) (keep_below hbr (unhide HB1)))
      have HBR := hide hbr
      clear hrow hbr HR HB0 HB1
      generalize isB (R j) i g = ok at *
      cases ok
      all_goals
        go_wp2_with (first
          | (go_at_call 105; refine (unhide HC).mono ?_; rintro e w5 ⟨rfl, hb5⟩; have HB5 := hide ((unhide HBR).trans (hb5.mono (unhide HBR).size)); clear hb5))
        first
        | (go_ret
           have hv : fIx R i g n 0 = (j : Int) := (unhide HF).trans ((unhide HS).trans (by simp))
           rw [hv]
           exact ⟨rfl, unhide HB5⟩)
        | (go_roundw
           case rel => exact ⟨j + 1, by omega, by go_num, (unhide HF).trans ((unhide HS).trans (by simp)), unhide HB5⟩
           case measure => simp [intOf]; omega)
    · obtain rfl : j = n := by omega
      have hv : fIx R i g j 0 = -1 := by rw [unhide HF, Nat.sub_self]; rfl
      have HB := hide hbr
      clear hbr HR HB0 HB1
      go_wp2
      go_ret
      rw [hv]
      exact ⟨rfl, unhide HB⟩
def beingV (i g : Int) : Value := .agg #[.int .i64 i, .int .i64 g]
set_option maxRecDepth 8000 in
set_option maxHeartbeats 400000 in
theorem find_any (A : Option Addr) (n cap : Nat) (R : Nat → RowI) (i g : Int) (w : World) (hn : n ≤ 9223372036854775807) (hR : RowsAt w A n R) :
    Calls Try.prog 88 #[.slice A n cap, beingV i g] w fun e w' => e = .returned (.int .i64 (fIx R i g n 0)) ∧ Below w.heap.size w w' := by
  have hb : Below w.heap.size w (w.alloc (.cells #[.int .i64 i, .int .i64 g] 50)) := (Below.refl _ _).alloc (Nat.le_refl _) _
  have HC := hide (indexFind_any A n cap R i g w.heap.size _ hn (hR.below hb) (by simp) (by simp))
  have HB := hide hb
  clear hb hR
  unfold beingV
  go_enter Try.func88, Try.ntmps88
  go_wp2_with (first
    | (go_at_call 103; refine (unhide HC).mono ?_; rintro e w5 ⟨rfl, hb5⟩; have HB5 := hide ((unhide HB).trans (hb5.mono (unhide HB).size)); clear hb5))
  go_ret
  exact ⟨rfl, unhide HB5⟩
theorem fIx_spec (R : Nat → RowI) (i g : Int) : ∀ n j, fIx R i g n j = -1 ∨ ∃ k : Nat, j ≤ k ∧ k < j + n ∧ fIx R i g n j = (k : Int) ∧ isB (R k) i g = true
  | 0, _ => .inl rfl
  | n + 1, j => by
    unfold fIx
    cases h : isB (R j) i g
    · simp only [Bool.false_eq_true, if_false]
      rcases fIx_spec R i g n (j + 1) with h1 | ⟨k, h1, h2, h3, h4⟩
      · exact .inl h1
      · exact .inr ⟨k, by omega, by omega, h3, h4⟩
    · simp only [if_true]
      exact .inr ⟨j, by omega, by omega, rfl, h⟩
end Go.Proofs.Ytnbleebilmghcab
namespace Go.Proofs.Ytnbleebilmghcab
open Go.RowKit
attribute [local go_sem ↓] Go.wp_at_zero Go.wp_at_succ
def worldV (A : Option Addr) (n cap : Nat) (G : Option Addr) (gn gcap : Nat) : Value := .agg #[.slice A n cap, .slice G gn gcap]
def hasI (h p : Int) : Bool := bits .and .i64 h (bitI p) != 0
def getI (R : Nat → RowI) (n : Nat) (i g p : Int) : Int × Bool :=
  if fIx R i g n 0 < 0 then (0, false) else if hasI (R (fIx R i g n 0).toNat).has p then ((R (fIx R i g n 0).toNat).v p.toNat, true) else (0, false)
theorem has_part (h p : Int) (hh : hasI h p = true) : ∃ k : Nat, k < 8 ∧ p = (k : Int) := by
  by_cases hp : partB p = true
  · have := of_decide_eq_true hp
    exact ⟨p.toNat, by omega, by omega⟩
  · exfalso
    have e : bitI p = 0 := by unfold bitI; rw [if_neg]; simpa [partB] using hp
    unfold hasI at hh
    rw [e] at hh
    have e2 : bits .and .i64 h 0 = 0 := by
      have e3 : bits .and .i64 h 0 = IntKind.i64.wrap (((BitVec.ofInt 64 h &&& BitVec.ofInt 64 0).toNat : Nat) : Int) := rfl
      rw [e3]; simp [IntKind.wrap_i64]
    rw [e2] at hh
    simp at hh
structure GW (w : World) (A : Option Addr) (n cap : Nat) (W : World) : Prop where
  bel : Below w.heap.size w W
  r : W.cell? ⟨w.heap.size, 0, none⟩ = some (.slice A n cap)
set_option maxRecDepth 8000 in
set_option maxHeartbeats 1000000 in
theorem get_any (A : Option Addr) (n cap : Nat) (G : Option Addr) (gn gcap : Nat) (R : Nat → RowI) (i g p : Int) (w : World) (hn : n ≤ 9223372036854775807) (hR : RowsAt w A n R) :
    Calls Try.prog 64 #[worldV A n cap G gn gcap, beingV i g, .int .i64 p] w fun e w' => e = .returned (.tuple #[.int .i64 (getI R n i g p).1, .bool (getI R n i g p).2]) ∧ Below w.heap.size w w' := by
  have hb : Below w.heap.size w ((w.alloc (.cells #[.slice A n cap, .slice G gn gcap] 40)).alloc (.cells #[.int .i64 i, .int .i64 g] 50)) := by go_grown
  have HC := hide (find_any A n cap R i g _ hn (hR.below hb))
  have hG : GW w A n cap ((w.alloc (.cells #[.slice A n cap, .slice G gn gcap] 40)).alloc (.cells #[.int .i64 i, .int .i64 g] 50)) := ⟨hb, by simp [go_sem]⟩
  have HG := hide hG
  have HR := hide hR
  clear hb hR hG
  unfold worldV getI
  unfold beingV at *
  rcases fIx_spec R i g n 0 with hf | ⟨k, _, hk, hf, hi⟩
  · rw [hf] at HC
    have e : (if fIx R i g n 0 < 0 then ((0 : Int), false) else if hasI (R (fIx R i g n 0).toNat).has p then ((R (fIx R i g n 0).toNat).v p.toNat, true) else (0, false)) = (0, false) := by rw [if_pos (by omega)]
    rw [e]
    clear e hf
    go_enter Try.func64, Try.ntmps64
    go_wp2_with (first
      | (go_at_call 88; refine (unhide HC).mono ?_; rintro e w5 ⟨rfl, hb5⟩; have HB5 := hide ((unhide HG).bel.trans (hb5.mono (unhide HG).bel.size)); clear hb5))
    go_ret2
    exact ⟨rfl, unhide HB5⟩
  · rw [hf] at HC
    have hkn : k < n := by omega
    have e : (if fIx R i g n 0 < 0 then ((0 : Int), false) else if hasI (R (fIx R i g n 0).toNat).has p then ((R (fIx R i g n 0).toNat).v p.toNat, true) else (0, false)) = if hasI (R k).has p then ((R k).v p.toNat, true) else (0, false) := by
      rw [if_neg (by omega), hf]; rfl
    rw [e]
    clear e
    obtain ⟨b, off, rfl, hrow⟩ := unhide HR k hkn
    have HROW := hide hrow
    have kk0 : (0 : Int) ≤ (k : Int) := by omega
    have kk1 : (k : Int) < (n : Int) := by omega
    have kk2 : ¬ (k : Int) < 0 := by omega
    have HH := hide (fun W => has_any (R k).has p W)
    have HPQ := hide (has_part (R k).has p)
    clear hrow HR hf hi
    unfold hasI at *
    generalize (bits .and .i64 (R k).has (bitI p) != 0) = hb at *
    cases hb
    · go_enter Try.func64, Try.ntmps64
      go_wp2_with (first
        | (go_at_call 88; refine (unhide HC).mono ?_; rintro e w5 ⟨rfl, hb5⟩; have HB5 := hide ((unhide HG).bel.trans (hb5.mono (unhide HG).bel.size)); have r0 := keep_below hb5 (unhide HG).r; have c2 := ((unhide HROW).below (unhide HB5)).c2; clear hb5)
        | (go_at_call 60; refine (unhide HH _).mono ?_; rintro e w6 ⟨rfl, hw⟩; obtain rfl := hw.symm))
      go_ret2
      exact ⟨rfl, unhide HB5⟩
    · obtain ⟨q, hq, rfl⟩ := unhide HPQ rfl
      have qq0 : (0 : Int) ≤ (q : Int) := by omega
      have qq1 : (q : Int) < 8 := by omega
      go_enter Try.func64, Try.ntmps64
      go_wp2_with (first
        | (go_at_call 88; refine (unhide HC).mono ?_; rintro e w5 ⟨rfl, hb5⟩; have HB5 := hide ((unhide HG).bel.trans (hb5.mono (unhide HG).bel.size)); have r0 := keep_below hb5 (unhide HG).r; have c2 := ((unhide HROW).below (unhide HB5)).c2; have cv := ((unhide HROW).below (unhide HB5)).v q hq; clear hb5)
        | (go_at_call 60; refine (unhide HH _).mono ?_; rintro e w6 ⟨rfl, hw⟩; obtain rfl := hw.symm))
      go_ret2
      exact ⟨rfl, unhide HB5⟩
end Go.Proofs.Ytnbleebilmghcab
namespace Go.Proofs.Ytnbleebilmghcab
open Go.RowKit
attribute [local go_sem ↓] Go.wp_at_zero Go.wp_at_succ
def okV (x : RowI) (k : Nat) : Bool := valB (x.v k) && (x.v k == 0 || hasI x.has (k : Int))
def okVs (x : RowI) (t : Nat) : Bool := (List.range t).all (fun k => okV x k)
def rvB (x : RowI) : Bool := setB x.has && okVs x 8
theorem okVs_succ (x : RowI) (t : Nat) : okVs x (t + 1) = (okVs x t && okV x t) := by
  unfold okVs; rw [List.range_succ, List.all_append]; simp
theorem okVs_false (x : RowI) (k t : Nat) (hk : k < t) (h : okV x k = false) : okVs x t = false := by
  unfold okVs
  rw [List.all_eq_false]
  exact ⟨k, List.mem_range.2 hk, by simp [h]⟩
theorem run_ix8 (v : Nat → Int) (k : Nat) (w : World) (hk : k < 8) :
    Sem.run Try.prog (Instr.index 51 (.agg #[.int .i64 (v 0), .int .i64 (v 1), .int .i64 (v 2), .int .i64 (v 3), .int .i64 (v 4), .int .i64 (v 5), .int .i64 (v 6), .int .i64 (v 7)]) (.int .i64 (k : Int))) w = .ok (.int .i64 (v k)) w := by
  rcases (by omega : k = 0 ∨ k = 1 ∨ k = 2 ∨ k = 3 ∨ k = 4 ∨ k = 5 ∨ k = 6 ∨ k = 7) with rfl | rfl | rfl | rfl | rfl | rfl | rfl | rfl
  all_goals simp [Instr.index, go_sem]
set_option maxRecDepth 8000 in
set_option maxHeartbeats 1000000 in
theorem rightVals_any (x : RowI) (w : World) :
    Calls Try.prog 89 #[rowV x] w fun e w' => e = .returned (.bool (rvB x)) ∧ Below w.heap.size w w' := by
  have hix := fun k W hk => run_ix8 x.v k W hk
  unfold rowV rvB
  cases hs : setB x.has
  · go_enter Try.func89, Try.ntmps89
    go_wp2_with (first
      | (go_at_call 33; refine (set_any _ _).mono ?_; rintro e w1 ⟨rfl, hw⟩; obtain rfl := hw.symm))
    go_ret
    exact ⟨by simp, by go_grown⟩
  · go_enter Try.func89, Try.ntmps89
    go_wp2_with (first
      | (go_at_call 33; refine (set_any _ _).mono ?_; rintro e w1 ⟨rfl, hw⟩; obtain rfl := hw.symm))
    go_loop [11] (fun i => ∃ t : Nat, t ≤ 8 ∧ i = .int .i64 t ∧ okVs x t = true) (fun i => 8 - (intOf i).toNat)
    case atStart => exact ⟨0, by omega, rfl, rfl⟩
    case round =>
      obtain ⟨t, ht, rfl, hok⟩ := hrel
      have HO := hide hok
      clear hok
      by_cases hlt : t < 8
      · have t0 : (0 : Int) ≤ (t : Int) := by omega
        have t1 : (t : Int) < 8 := by omega
        have hixt := fun W => hix t W hlt
        have HS := hide (okVs_succ x t)
        have HF := hide (okVs_false x t 8 hlt)
        have HA : Hid (okV x t = (valB (x.v t) && (x.v t == 0 || hasI x.has (t : Int)))) := rfl
        have HV := hide (fun W => value_any (x.v t) W)
        have HH := hide (fun W => has_any x.has (t : Int) W)
        clear hix
        unfold hasI at HA
        generalize okV x t = ok at *
        generalize (bits .and .i64 x.has (bitI (t : Int)) != 0) = hb at *
        generalize valB (x.v t) = vb at *
        generalize x.v t = vt at *
        have hc : vb = false ∨ (vb = true ∧ vt = 0) ∨ (vb = true ∧ ¬ vt = 0 ∧ hb = false) ∨ (vb = true ∧ ¬ vt = 0 ∧ hb = true) := by
          by_cases h : vt = 0 <;> cases vb <;> cases hb <;> simp [h]
        rcases hc with rfl | ⟨rfl, rfl⟩ | ⟨rfl, hz, rfl⟩ | ⟨rfl, hz, rfl⟩
        all_goals
          go_wp2_with (first
            | (go_at_call 81; refine (unhide HV _).mono ?_; rintro e w1 ⟨rfl, hw⟩; obtain rfl := hw.symm)
            | (go_at_call 60; refine (unhide HH _).mono ?_; rintro e w1 ⟨rfl, hw⟩; obtain rfl := hw.symm))
          first
          | (go_ret
             have hv : okVs x 8 = false := unhide HF ((unhide HA).trans (by simp [*]))
             rw [hv]
             exact ⟨rfl, by go_grown⟩)
          | (go_round
             case rel => exact ⟨t + 1, by omega, by go_num, by rw [unhide HS, unhide HO, unhide HA]; simp [*]⟩
             case measure => simp [intOf]; omega)
      · obtain rfl : t = 8 := by omega
        clear hix
        go_wp2
        go_ret
        exact ⟨by rw [unhide HO]; rfl, by go_grown⟩
end Go.Proofs.Ytnbleebilmghcab
namespace Go.Proofs.Ytnbleebilmghcab
open Go.RowKit
attribute [local go_sem ↓] Go.wp_at_zero Go.wp_at_succ
def IntsAt (w : World) (G : Option Addr) (n : Nat) (f : Nat → Int) : Prop := ∀ j, j < n → ∃ b off, G = some ⟨b, off, none⟩ ∧ w.cell? ⟨b, off + j, none⟩ = some (.int .i64 (f j))
theorem IntsAt.below {w w1 : World} {G : Option Addr} {n : Nat} {f : Nat → Int} (h : IntsAt w G n f) (hb : Below w.heap.size w w1) : IntsAt w1 G n f := fun j hj => by
  obtain ⟨b, off, h0, h1⟩ := h j hj
  exact ⟨b, off, h0, keep_below hb h1⟩
def wrowI (R : Nat → RowI) (gn : Nat) (f : Nat → Int) (j : Nat) : Int :=
  if rvB (R j) = false ∨ (R j).ix < 0 ∨ (gn : Int) ≤ (R j).ix then 3 else if 0 < j ∧ (R j).ix ≤ (R (j - 1)).ix then 2 else if (R j).gen = f (R j).ix.toNat then 0 else 7
theorem bel_drewN' {B : Nat} {a w : World} (h : Below B a w) (n : Nat) : Below B a (w.drewN n) := ⟨h.os, h.tape, h.output, h.size, h.block⟩
structure PW (w : World) (A : Option Addr) (n cap : Nat) (G : Option Addr) (gn gcap : Nat) (x : RowI) (W : World) : Prop where
  bel : Below w.heap.size w W
  r0 : W.cell? ⟨w.heap.size, 0, none⟩ = some (.slice A n cap)
  r1 : W.cell? ⟨w.heap.size, 1, none⟩ = some (.slice G gn gcap)
  d0 : W.cell? ⟨w.heap.size + 1, 0, none⟩ = some (.int .i64 x.ix)
  d1 : W.cell? ⟨w.heap.size + 1, 1, none⟩ = some (.int .i64 x.gen)
theorem PW.below {w : World} {A : Option Addr} {n cap : Nat} {G : Option Addr} {gn gcap : Nat} {x : RowI} {W W1 : World} (h : PW w A n cap G gn gcap x W) (hb : Below W.heap.size W W1) : PW w A n cap G gn gcap x W1 :=
  ⟨h.bel.trans (hb.mono h.bel.size), keep_below hb h.r0, keep_below hb h.r1, keep_below hb h.d0, keep_below hb h.d1⟩
theorem PW.start (w : World) (A : Option Addr) (n cap : Nat) (G : Option Addr) (gn gcap : Nat) (x : RowI) : PW w A n cap G gn gcap x ((w.alloc (.cells #[.slice A n cap, .slice G gn gcap] 40)).alloc (.cells #[.int .i64 x.ix, .int .i64 x.gen, .int .i64 x.has, .int .i64 (x.v 0), .int .i64 (x.v 1), .int .i64 (x.v 2), .int .i64 (x.v 3), .int .i64 (x.v 4), .int .i64 (x.v 5), .int .i64 (x.v 6), .int .i64 (x.v 7)] 53)) :=
  ⟨by go_grown, by simp [go_sem], by simp [go_sem], by simp [go_sem], by simp [go_sem]⟩
set_option maxRecDepth 8000 in
set_option maxHeartbeats 2000000 in
theorem wrongRow_any (A : Option Addr) (n cap : Nat) (G : Option Addr) (gn gcap : Nat) (R : Nat → RowI) (f : Nat → Int) (j : Nat) (w : World) (hj : j < n) (hn : n ≤ 9223372036854775807) (hR : RowsAt w A n R) (hG : IntsAt w G gn f) :
    Calls Try.prog 65 #[worldV A n cap G gn gcap, .int .i64 (j : Int)] w fun e w' => e = .returned (.int .i64 (wrowI R gn f j)) ∧ Below w.heap.size w w' := by
  have hP := PW.start w A n cap G gn gcap (R j)
  obtain ⟨b, off, rfl, hrow⟩ := hR j hj
  have hb0 : Below w.heap.size w (w.alloc (.cells #[.slice (some ⟨b, off, none⟩) n cap, .slice G gn gcap] 40)) := (Below.refl _ _).alloc (Nat.le_refl _) _
  have c0 := hrow.c0
  have c1 := hrow.c1
  have c2 := hrow.c2
  have c3 := hrow.v 0 (by omega)
  have c4 := hrow.v 1 (by omega)
  have c5 := hrow.v 2 (by omega)
  have c6 := hrow.v 3 (by omega)
  have c7 := hrow.v 4 (by omega)
  have c8 := hrow.v 5 (by omega)
  have c9 := hrow.v 6 (by omega)
  have c10 := hrow.v 7 (by omega)
  simp only [Nat.add_assoc, Nat.reduceAdd] at c3 c4 c5 c6 c7 c8 c9 c10
  simp only [← Nat.add_assoc] at c3 c4 c5 c6 c7 c8 c9 c10
  have hz : b < w.heap.size := World.block_lt_of_cell? w _ c0
  have HP := hide hP
  have HRV := hide (fun W => rightVals_any (R j) W)
  have HR := hide hR
  have HG := hide hG
  have jj0 : (0 : Int) ≤ (j : Int) := by omega
  have jj1 : (j : Int) < (n : Int) := by omega
  clear hrow hb0 hP hR hG
  unfold rowV at HRV
  unfold worldV wrowI
  cases hv : rvB (R j)
  · rw [hv] at HRV
    simp only [true_or, if_true]
    go_enter Try.func65, Try.ntmps65
    go_wp2_with (first
      | (go_at_call 89; refine (unhide HRV _).mono ?_; rintro e w5 ⟨rfl, hb5⟩; have HP5 := hide ((unhide HP).below hb5); clear hb5))
    go_ret
    exact ⟨rfl, (unhide HP5).bel⟩
  · rw [hv] at HRV
    by_cases hi0 : (R j).ix < 0
    · simp only [hi0, true_or, or_true, if_true]
      go_enter Try.func65, Try.ntmps65
      go_wp2_with (first
        | (go_at_call 89; refine (unhide HRV _).mono ?_; rintro e w5 ⟨rfl, hb5⟩; have HP5 := hide ((unhide HP).below hb5); clear hb5))
      go_ret
      exact ⟨rfl, (unhide HP5).bel⟩
    · by_cases hi1 : (gn : Int) ≤ (R j).ix
      · simp only [hi1, or_true, if_true]
        go_enter Try.func65, Try.ntmps65
        go_wp2_with (first
          | (go_at_call 89; refine (unhide HRV _).mono ?_; rintro e w5 ⟨rfl, hb5⟩; have hP5 := (unhide HP).below hb5; have r1 := hP5.r1; have HP5 := hide hP5; clear hb5 hP5))
        go_ret
        exact ⟨rfl, (unhide HP5).bel⟩
      · simp only [hi0, hi1, Bool.true_eq_false, or_self, if_false]
        have hq : ∃ q : Nat, q < gn ∧ (R j).ix = (q : Int) := ⟨(R j).ix.toNat, by omega, by omega⟩
        obtain ⟨q, hq, hqe⟩ := hq
        obtain ⟨bg, og, rfl, cg⟩ := unhide HG q hq
        have HCG := hide cg
        have qq0 : (0 : Int) ≤ (q : Int) := by omega
        have qq1 : (q : Int) < (gn : Int) := by omega
        have qq2 : ¬ (q : Int) < 0 := by omega
        have qq3 : ¬ (gn : Int) ≤ (q : Int) := by omega
        clear cg HG hi0 hi1
        cases j with
        | zero =>
          generalize R 0 = x at *
          obtain ⟨ix, gen, has, v⟩ := x
          dsimp only at *
          subst hqe
          simp only [Nat.lt_irrefl, false_and, if_false, Int.toNat_natCast]
          simp only [Nat.zero_mul, Nat.add_zero] at c0 c1 c2 c3 c4 c5 c6 c7 c8 c9 c10
          clear HR
          by_cases hge : gen = f q
          all_goals
            first
            | (subst hge; simp only [if_true])
            | simp only [hge, if_false]
            go_enter Try.func65, Try.ntmps65
            go_wp2_with (first
              | (go_at_call 89; refine (unhide HRV _).mono ?_; rintro e w5 ⟨rfl, hb5⟩; have hP5 := (unhide HP).below hb5; have r0 := hP5.r0; have r1 := hP5.r1; have d0 := hP5.d0; have d1 := hP5.d1; have cg := keep_below hP5.bel (unhide HCG); have HP5 := hide hP5; clear hb5 hP5))
            go_quiet (fail)
            go_wp2_with fail
            go_ret
            exact ⟨rfl, bel_drewN' (unhide HP5).bel _⟩
        | succ m =>
          obtain ⟨b', off', hbo, hprev⟩ := unhide HR m (by omega)
          simp only [Option.some.injEq, Addr.mk.injEq, and_true] at hbo
          obtain ⟨rfl, rfl⟩ := hbo
          have HPV := hide hprev.c0
          clear hprev HR
          simp only [Nat.add_sub_cancel, Nat.zero_lt_succ, true_and]
          generalize R (m + 1) = x at *
          obtain ⟨ix, gen, has, v⟩ := x
          dsimp only at *
          subst hqe
          simp only [Int.toNat_natCast]
          generalize (R m).ix = pix at *
          have hm0 : (0 : Int) < (m : Int) + 1 := by omega
          have hm1 : (m : Int) < (n : Int) := by omega
          have hm2 : (0 : Int) ≤ (m : Int) := by omega
          by_cases hp : (q : Int) ≤ pix
          · simp only [hp, if_true]
            go_enter Try.func65, Try.ntmps65
            go_wp2_with (first
              | (go_at_call 89; refine (unhide HRV _).mono ?_; rintro e w5 ⟨rfl, hb5⟩; have hP5 := (unhide HP).below hb5; have r0 := hP5.r0; have r1 := hP5.r1; have d0 := hP5.d0; have d1 := hP5.d1; have pv := keep_below hP5.bel (unhide HPV); have HP5 := hide hP5; clear hb5 hP5))
            go_ret
            exact ⟨rfl, (unhide HP5).bel⟩
          · simp only [hp, if_false]
            by_cases hge : gen = f q
            all_goals
              first
              | (subst hge; simp only [if_true])
              | simp only [hge, if_false]
              go_enter Try.func65, Try.ntmps65
              go_wp2_with (first
                | (go_at_call 89; refine (unhide HRV _).mono ?_; rintro e w5 ⟨rfl, hb5⟩; have hP5 := (unhide HP).below hb5; have r0 := hP5.r0; have r1 := hP5.r1; have d0 := hP5.d0; have d1 := hP5.d1; have cg := keep_below hP5.bel (unhide HCG); have pv := keep_below hP5.bel (unhide HPV); have HP5 := hide hP5; clear hb5 hP5))
              go_quiet (fail)
              go_wp2_with fail
              go_ret
              exact ⟨rfl, bel_drewN' (unhide HP5).bel _⟩
end Go.Proofs.Ytnbleebilmghcab
namespace Go.Proofs.Ytnbleebilmghcab
open Go.RowKit
attribute [local go_sem ↓] Go.wp_at_zero Go.wp_at_succ
def gTo (f : Nat → Int) (r : Int × Int) : Nat → Nat → Int × Int
  | 0, _ => r
  | m + 1, j => if f j < 1 ∨ 1000 < f j then (3, (j : Int)) else gTo f r m (j + 1)
def rTo (R : Nat → RowI) (gn : Nat) (f : Nat → Int) : Nat → Nat → Int × Int
  | 0, _ => (0, 0)
  | m + 1, j => if wrowI R gn f j = 0 then rTo R gn f m (j + 1) else (wrowI R gn f j, (j : Int))
def plainF (R : Nat → RowI) (n gn : Nat) (f : Nat → Int) : Int × Int := if 60 < gn then (4, 0) else gTo f (rTo R gn f n 0) gn 0
def faultP (x : Int × Int) : Value := .agg #[.int .i64 x.1, .int .i64 x.2]
theorem gTo_step (f : Nat → Int) (r : Int × Int) (n j : Nat) (h : j < n) : gTo f r (n - j) j = if f j < 1 ∨ 1000 < f j then (3, (j : Int)) else gTo f r (n - (j + 1)) (j + 1) := by
  rw [show n - j = (n - (j + 1)) + 1 by omega, gTo]
theorem rTo_step (R : Nat → RowI) (gn : Nat) (f : Nat → Int) (n j : Nat) (h : j < n) : rTo R gn f (n - j) j = if wrowI R gn f j = 0 then rTo R gn f (n - (j + 1)) (j + 1) else (wrowI R gn f j, (j : Int)) := by
  rw [show n - j = (n - (j + 1)) + 1 by omega, rTo]
structure VB (w : World) (A : Option Addr) (n cap : Nat) (G : Option Addr) (gn gcap : Nat) (W : World) : Prop where
  bel : Below w.heap.size w W
  r0 : W.cell? ⟨w.heap.size, 0, none⟩ = some (.slice A n cap)
  r1 : W.cell? ⟨w.heap.size, 1, none⟩ = some (.slice G gn gcap)
  t0 : W.cell? ⟨w.heap.size + 1, 0, none⟩ = some (.int .i64 0)
  t1 : W.cell? ⟨w.heap.size + 1, 1, none⟩ = some (.int .i64 0)
  f : ∀ i, W.frozen? ⟨w.heap.size + 1, i, none⟩ = false
theorem VB.below {w : World} {A : Option Addr} {n cap : Nat} {G : Option Addr} {gn gcap : Nat} {W W1 : World} (h : VB w A n cap G gn gcap W) (hb : Below W.heap.size W W1) : VB w A n cap G gn gcap W1 := by
  have z := World.block_lt_of_cell? W _ h.t0
  exact ⟨h.bel.trans (hb.mono h.bel.size), keep_below hb h.r0, keep_below hb h.r1, keep_below hb h.t0, keep_below hb h.t1, fun i => (hb.frozen (p := ⟨w.heap.size + 1, i, none⟩) z).trans (h.f i)⟩
theorem VB.start (w : World) (A : Option Addr) (n cap : Nat) (G : Option Addr) (gn gcap : Nat) : VB w A n cap G gn gcap ((w.alloc (.cells #[.slice A n cap, .slice G gn gcap] 40)).alloc (.cells #[.int .i64 0, .int .i64 0] 30)) := by
  obtain ⟨w1, h1⟩ : ∃ W, W = w.alloc (.cells #[.slice A n cap, .slice G gn gcap] 40) := ⟨_, rfl⟩
  have z1 : w1.heap.size = w.heap.size + 1 := by rw [h1]; simp
  have b1 : Below w.heap.size w w1 := by rw [h1]; exact (Below.refl _ _).alloc (Nat.le_refl _) _
  have e0 : w1.cell? ⟨w.heap.size, 0, none⟩ = some (.slice A n cap) := by rw [h1]; simp
  have e1 : w1.cell? ⟨w.heap.size, 1, none⟩ = some (.slice G gn gcap) := by rw [h1]; simp
  rw [← h1]
  clear h1
  have b2 : Below w1.heap.size w1 (w1.alloc (.cells #[.int .i64 0, .int .i64 0] 30)) := (Below.refl _ _).alloc (Nat.le_refl _) _
  refine ⟨b1.trans (b2.mono b1.size), keep_below b2 e0, keep_below b2 e1, ?_, ?_, fun i => ?_⟩ <;> rw [← z1] <;> simp [go_sem]
set_option maxRecDepth 8000 in
set_option maxHeartbeats 2000000 in
theorem pwrong_any (A : Option Addr) (n cap : Nat) (G : Option Addr) (gn gcap : Nat) (R : Nat → RowI) (f : Nat → Int) (w : World) (hn : n ≤ 9223372036854775807) (hR : RowsAt w A n R) (hG : IntsAt w G gn f) :
    Calls Try.prog 42 #[worldV A n cap G gn gcap] w fun e w' => e = .returned (faultP (plainF R n gn f)) ∧ Below w.heap.size w w' := by
  have hV := VB.start w A n cap G gn gcap
  have HV := hide hV
  have HRW := hide (fun (W : World) (hb : Below w.heap.size w W) (j : Nat) (hj : j < n) => wrongRow_any A n cap G gn gcap R f j W hj hn (hR.below hb) (hG.below hb))
  have HG := hide hG
  clear hV hR hG
  unfold plainF
  unfold worldV at *
  by_cases hg : 60 < gn
  · have hg' : (60 : Int) < (gn : Int) := by omega
    simp only [hg, if_true]
    go_enter Try.func42, Try.ntmps42
    go_wp2
    refine bodyPost_ret (v := faultP (4, 0)) (by simp [results, Try.results42, go_sem, faultP]) rfl ⟨rfl, ?_⟩
    go_grown
  · have hg' : ¬ (60 : Int) < (gn : Int) := by omega
    simp only [hg, if_false]
    go_enter Try.func42, Try.ntmps42
    go_wp2
    obtain ⟨W, hW⟩ : ∃ W, W = (w.alloc (.cells #[.slice A n cap, .slice G gn gcap] 40)).alloc (.cells #[.int .i64 0, .int .i64 0] 30) := ⟨_, rfl⟩
    have hV := unhide HV
    rw [← hW] at hV ⊢
    clear hW HV
    have HV := hide hV
    clear hV
    go_loop [15] (fun i => ∃ j : Nat, j ≤ gn ∧ i = .int .i64 j ∧ gTo f (rTo R gn f n 0) gn 0 = gTo f (rTo R gn f n 0) (gn - j) j) (fun i => gn - (intOf i).toNat)
    case atStart => exact ⟨0, Nat.zero_le _, rfl, rfl⟩
    case round =>
      obtain ⟨j, hj, rfl, hF⟩ := hrel
      have HF := hide hF
      clear hF
      by_cases hlt : j < gn
      · have j0 : (0 : Int) ≤ (j : Int) := by omega
        have j1 : (j : Int) < (gn : Int) := by omega
        obtain ⟨b, off, rfl, cg⟩ := unhide HG j hlt
        have cg := keep_below (unhide HV).bel cg
        have HS := hide (gTo_step f (rTo R gn f n 0) gn j hlt)
        clear HG HRW
        generalize f j = fj at *
        have hc : fj < 1 ∨ (¬ fj < 1 ∧ 1000 < fj) ∨ (¬ fj < 1 ∧ ¬ 1000 < fj) := by omega
        rcases hc with h1 | ⟨h1, h2⟩ | ⟨h1, h2⟩
        · have t0 := (unhide HV).t0
          have t1 := (unhide HV).t1
          have f0 := (unhide HV).f 0
          have f1 := (unhide HV).f 1
          go_wp2
          have hv := (unhide HF).trans ((unhide HS).trans (if_pos (.inl h1)))
          refine bodyPost_ret (v := faultP (3, (j : Int))) (by simp [results, Try.results42, go_sem, faultP, t0, t1]) rfl ⟨by rw [hv], ?_⟩
          exact below_setCells (w.heap.size + 1) (by omega) [.int .i64 3, .int .i64 (j : Int)] 0 W (unhide HV).bel
        · have t0 := (unhide HV).t0
          have t1 := (unhide HV).t1
          have f0 := (unhide HV).f 0
          have f1 := (unhide HV).f 1
          go_wp2
          have hv := (unhide HF).trans ((unhide HS).trans (if_pos (.inr h2)))
          refine bodyPost_ret (v := faultP (3, (j : Int))) (by simp [results, Try.results42, go_sem, faultP, t0, t1]) rfl ⟨by rw [hv], ?_⟩
          exact below_setCells (w.heap.size + 1) (by omega) [.int .i64 3, .int .i64 (j : Int)] 0 W (unhide HV).bel
        · go_wp2
          go_round
          case rel => exact ⟨j + 1, by omega, by go_num, (unhide HF).trans ((unhide HS).trans (if_neg (by omega)))⟩
          case measure => simp [intOf]; omega
      · obtain rfl : j = gn := by omega
        have hv : gTo f (rTo R j f n 0) j 0 = rTo R j f n 0 := by rw [unhide HF, Nat.sub_self]; rfl
        have HVV := hide hv
        have r0 := (unhide HV).r0
        have r1 := (unhide HV).r1
        clear HG hv HF
        go_wp2
        go_loopw [32] (fun i wr => ∃ k : Nat, k ≤ n ∧ i = .int .i64 k ∧ rTo R j f n 0 = rTo R j f (n - k) k ∧ VB w A n cap G j gcap wr) (fun i _ => n - (intOf i).toNat)
        case atStart => exact ⟨0, Nat.zero_le _, rfl, rfl, unhide HV⟩
        case round =>
          clear HV r0 r1
          obtain ⟨k, hk, rfl, hF, hN⟩ := hrel
          have HF := hide hF
          clear hF
          by_cases hlt2 : k < n
          · have k0 : (0 : Int) ≤ (k : Int) := by omega
            have k1 : (k : Int) < (n : Int) := by omega
            have HC := hide (unhide HRW wr hN.bel k hlt2)
            have HS := hide (rTo_step R j f n k hlt2)
            have r0 := hN.r0
            have r1 := hN.r1
            have HN := hide hN
            clear hN HRW
            generalize wrowI R j f k = ej at *
            by_cases he : ej = 0
            · subst he
              go_wp2_with (first
                | (go_at_call 65; refine (unhide HC).mono ?_; rintro e w5 ⟨rfl, hb5⟩; have HN5 := hide ((unhide HN).below hb5); clear hb5))
              go_roundw
              case rel => exact ⟨k + 1, by omega, by go_num, (unhide HF).trans ((unhide HS).trans (by simp)), unhide HN5⟩
              case measure => simp [intOf]; omega
            · go_wp2_with (first
                | (go_at_call 65; refine (unhide HC).mono ?_; rintro e w5 ⟨rfl, hb5⟩; have hN5 := (unhide HN).below hb5; have t0 := hN5.t0; have t1 := hN5.t1; have f0 := hN5.f 0; have f1 := hN5.f 1; clear hb5))
              have hv := (unhide HVV).trans ((unhide HF).trans ((unhide HS).trans (if_neg he)))
              refine bodyPost_ret (v := faultP (ej, (k : Int))) (by simp [results, Try.results42, go_sem, faultP, t0, t1]) rfl ⟨by rw [hv], ?_⟩
              exact below_setCells (w.heap.size + 1) (by omega) [.int .i64 ej, .int .i64 (k : Int)] 0 w5 hN5.bel
          · obtain rfl : k = n := by omega
            have hv : gTo f (rTo R j f k 0) j 0 = (0, 0) := by rw [unhide HVV, unhide HF, Nat.sub_self]; rfl
            have t0 := hN.t0
            have t1 := hN.t1
            have f0 := hN.f 0
            have f1 := hN.f 1
            have HB := hide hN.bel
            clear hN HRW
            go_wp2
            refine bodyPost_ret (v := faultP (0, 0)) (by simp [results, Try.results42, go_sem, faultP, t0, t1]) rfl ⟨by rw [hv], ?_⟩
            exact below_setCells (w.heap.size + 1) (by omega) [.int .i64 0, .int .i64 0] 0 wr (unhide HB)
end Go.Proofs.Ytnbleebilmghcab
