/- SFour, SGet -/
import Derived.Test.YtnbleebilmghcabGreatQO
set_option linter.all false
namespace Go.Proofs.YtnbleebilmghcabGreat
open Go Go.RowKit
attribute [local go_sem ↓] Go.wp_at_zero Go.wp_at_succ
end Go.Proofs.YtnbleebilmghcabGreat
namespace Go.Proofs.YtnbleebilmghcabGreat
open Go Go.RowKit
attribute [local go_sem ↓] Go.wp_at_zero Go.wp_at_succ
def getW (X : Wd) (i g p : Int) : Int × Bool := getI (fun j => X.rows.getD j dR) X.rows.length i g p
end Go.Proofs.YtnbleebilmghcabGreat
