/- The document's SameStore of two stores that are the same. -/
import Derived.Test.YtnbleebilmghcacGreatJX
set_option linter.all false
namespace Go.Proofs.YtnbleebilmghcacGreat
open Go Go.RowKit
attribute [local go_sem ↓] Go.wp_at_zero Go.wp_at_succ
end Go.Proofs.YtnbleebilmghcacGreat
