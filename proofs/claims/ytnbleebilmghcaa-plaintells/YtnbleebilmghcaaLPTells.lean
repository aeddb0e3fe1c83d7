/- The statement PlainTells' function. -/
import Derived.Test.YtnbleebilmghcaaLPTellsW
import Derived.Test.YtnbleebilmghcaaLPTellsN
import Derived.Test.YtnbleebilmghcaaLPTellsO
import Derived.Test.YtnbleebilmghcaaLPTellsY
set_option linter.unusedVariables false
set_option linter.unusedSimpArgs false
set_option linter.unnecessarySimpa false
namespace Go.Proofs.Ytnbleebilmghcaa
open Go Go.RowKit
attribute [local go_sem ↓] Go.wp_at_zero Go.wp_at_succ

theorem tells_law (A : Option Addr) (cap : Nat) (G : Option Addr) (gcap : Nat) (X : Wd) (i g has p n fa fn : Int) (w : World) (hl : X.rows.length * 88 ≤ 140737488351232) (hgl : X.gens.length * 8 ≤ 140737488351232) (hgv : ∀ j, j < X.gens.length → -9223372036854775808 ≤ X.gens.getD j 0) (hX : WldAt w A cap G gcap X) :
    Calls Try.prog 5 #[wldV A cap G gcap X, beingV i g, .int .i64 has, .int .i64 p, .int .i64 n, .agg #[.int .i64 fa, .int .i64 fn]] w fun e w' => e = .returned (.bool true) ∧ Below w.heap.size w w' := by
  by_cases hw0 : (wrongW X).1 = 0
  · rcases find_cases X i g with hf | ⟨k, hk, hf, _, _⟩
    · exact tells_none A cap G gcap X i g has p n fa fn w hl hgl hgv hX hw0 hf
    · cases hh : hasB (rowOf X k).has p
      · exact tells_no A cap G gcap X i g has p n fa fn w hl hgl hgv hX hw0 hk hf hh
      · obtain ⟨hbd, _⟩ := rv_parts (((right_iff X).1 hw0).rv k hk)
        obtain ⟨q, hq, hpq⟩ := has_part (rowOf X k).has p (by rw [hasI_hasB _ _ hbd.1 hbd.2]; exact hh)
        exact tells_yes A cap G gcap X i g has p n fa fn w hl hgl hgv hX hw0 hk hf q hq hpq hh
  · exact tells_wrong A cap G gcap X i g has p n fa fn w hl hgl hgv hX hw0
end Go.Proofs.Ytnbleebilmghcaa
