/- A row in a box; bits of sets. -/
import Derived.Test.YtnbleebilmghcabQY
import Derived.Test.YtnbleebilmghcabZRnWr
import Derived.Test.YtnbleebilmghcabQX
set_option linter.all false
namespace Go.Proofs.Ytnbleebilmghcab
open Go Go.RowKit
theorem row_box {W : World} {b : Nat} {r : RowI} {t : TypeId} (h : Bxs b [([.int .i64 r.ix, .int .i64 r.gen, .int .i64 r.has, .int .i64 (r.v 0), .int .i64 (r.v 1), .int .i64 (r.v 2), .int .i64 (r.v 3), .int .i64 (r.v 4), .int .i64 (r.v 5), .int .i64 (r.v 6), .int .i64 (r.v 7)], t)] W) : RowAt W b 0 r := by
  have c := fun j u hj => h.cell 0 rfl j (u := u) hj
  simp only [Nat.add_zero] at c
  refine ⟨c 0 _ rfl, c 1 _ rfl, c 2 _ rfl, fun k hk => ?_⟩
  match k, hk with
  | 0, _ => exact c 3 _ rfl
  | 1, _ => exact c 4 _ rfl
  | 2, _ => exact c 5 _ rfl
  | 3, _ => exact c 6 _ rfl
  | 4, _ => exact c 7 _ rfl
  | 5, _ => exact c 8 _ rfl
  | 6, _ => exact c 9 _ rfl
  | 7, _ => exact c 10 _ rfl
  | k + 8, hk => omega
theorem hasB_bt {x : Int} (h : setB x = true) {k : Nat} (hk : k < 8) : hasB x (k : Int) = bt x k := by
  unfold hasB
  rw [Int.toNat_natCast, tb_bt h hk]
  have : decide ((0 : Int) ≤ (k : Int) ∧ (k : Int) < 8) = true := decide_eq_true (by omega)
  rw [this, Bool.true_and]
theorem setB_le {x : Int} (h : setB x = true) : 0 ≤ x ∧ x ≤ 255 := by unfold setB at h; exact of_decide_eq_true h
end Go.Proofs.Ytnbleebilmghcab
