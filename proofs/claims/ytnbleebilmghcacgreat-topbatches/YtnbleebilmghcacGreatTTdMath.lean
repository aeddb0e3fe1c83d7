/- Twice as many each tick. -/
import Derived.Test.YtnbleebilmghcacGreatTTpFun
import Derived.Test.YtnbleebilmghcacGreatTRfMath
set_option linter.all false
namespace Go.Proofs.YtnbleebilmghcacGreat
open Go Go.RowKit
def dblL (t g:Nat):List DoI:=[spD 1 5,sysD 1 ⟨7,1,0,5⟩ g]++List.replicate t tickD
def dst (t:Nat):HI:=(zBV mAll (dblL t 0) ([],h0)).2
end Go.Proofs.YtnbleebilmghcacGreat
