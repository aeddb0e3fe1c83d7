/- What is refused, and what is asked, changes nothing. -/
import Derived.Test.YtnbleebilmghcacGreatTHo12
set_option linter.all false
namespace Go.Proofs.YtnbleebilmghcacGreat
open Go Go.RowKit
end Go.Proofs.YtnbleebilmghcacGreat
