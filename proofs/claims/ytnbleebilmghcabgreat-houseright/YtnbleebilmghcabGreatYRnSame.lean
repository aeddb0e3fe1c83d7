/- The document's SameStore of two stores that are the same. -/
import Derived.Test.YtnbleebilmghcabGreatKX
set_option linter.all false
namespace Go.Proofs.YtnbleebilmghcabGreat
open Go Go.RowKit
attribute [local go_sem ↓] Go.wp_at_zero Go.wp_at_succ
end Go.Proofs.YtnbleebilmghcabGreat
