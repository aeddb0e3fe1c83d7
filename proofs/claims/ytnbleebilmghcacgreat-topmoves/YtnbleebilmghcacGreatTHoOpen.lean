/- Mods and things to do that come in. -/
import Derived.Test.YtnbleebilmghcacGreatTHo11
import Derived.Test.YtnbleebilmghcacGreatJR
set_option linter.all false
namespace Go.Proofs.YtnbleebilmghcacGreat
open Go.ChangeShapes Go.WideShapes Go.ChangeAt Go.RowKit Go.Deep Go.Joins
set_option maxRecDepth 100000
section
variable {H:Type} {enc:TypeId×Value→H} {W:World} {base:Nat} {spare:Nat→Bool} {held:Bool}
theorem doCells_len (d:DoI):(zAb d).length=12:=rfl
end
end Go.Proofs.YtnbleebilmghcacGreat
