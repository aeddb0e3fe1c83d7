/-
  No cell of these rows narrows 'for every input' (looked for: loops, veiled, ifaces, maps, wideKeys, modest, calm, conditions, laid).
  DERIVED. THE GIVEN ROWS OF THIS SEAT. 8 by the template 'for every input the law returns true; each argument reads behind the call as it read before'; 0 by the template 'total and deterministic' (their statements: YtnbleebilmghcabTotals.lean).
  GIVEN WITH THE SEED: the statements are not yours to turn. If you find one false, say at which input.
  Laid BY PROGRAM, IN A SANDBOX (cutbox-rows.mjs): the forced cells as the released guide's own fill.sh prints them over the translation aa7d6bb38264f2b2… (all of the seat's roots in one cut). By AI agents, Wed Nov 11 2026. No macro, syntax, notation, axiom, sorry.
-/
import Derived.Test.YtnbleebilmghcabChecked
import GoSem.Claim
import GoSem.ClaimJoined
import GoSem.ClaimMapViews
import Derived.JoinedTies
import Derived.KernelRfl
namespace Go.Proofs.Ytnbleebilmghcab
/- THE CELL 'sum', in the pinned program and in every row, IS THE sha256 OF THE DUMP (.gsa) THAT YtnbleebilmghcabProg.lean LOADS. Nothing in Lean hashes anything: it is a label: what it is worth is what the hold of that sum in a sandbox is worth. -/
noncomputable def Try.pinned : Pinned := { name := "ytnbleebilmghcab", sum := "aa7d6bb38264f2b2fc60d55d94fedbab6eb159510fc57e2d4a7ea2f81acc39e6", checked := Try.checked }
namespace Rows
def none {H : Type} : Left H := { results := [], args := [] }

/-- 'broodlaw4.RuleBoth': WHATEVER THE INPUT: true; the input reads as it did. -/
def ruleBothSpec : ChangeSpec := { name := "ruleBoth", fn := fun _ => fun
  | [d1, d2] => { results := [.lit (.bool true)], args := [d1, d2] }
  | _ => none }
def ruleBothRow : OpenClaim := { program := "ytnbleebilmghcab", sum := "aa7d6bb38264f2b2fc60d55d94fedbab6eb159510fc57e2d4a7ea2f81acc39e6", func := "broodhouse/broodlaw4.RuleBoth", spec := "ruleBoth", apart := false }
def RuleBothSaid : Prop := ruleBothRow.holds Try.pinned (OpenSpec.ofChange ruleBothSpec)

/-- ITS FALSE NEIGHBOUR: 'it returns false'. Refute it at one input. -/
def ruleBothWrong : ChangeSpec := { name := "ruleBoth", fn := fun _ => fun
  | [d1, d2] => { results := [.lit (.bool false)], args := [d1, d2] }
  | _ => none }
def RuleBothWrongFalsely : Prop := ruleBothRow.holds Try.pinned (OpenSpec.ofChange ruleBothWrong)

/-- 'broodlaw4.RuleLess': WHATEVER THE INPUT: true; the input reads as it did. -/
def ruleLessSpec : ChangeSpec := { name := "ruleLess", fn := fun _ => fun
  | [d] => { results := [.lit (.bool true)], args := [d] }
  | _ => none }
def ruleLessRow : OpenClaim := { program := "ytnbleebilmghcab", sum := "aa7d6bb38264f2b2fc60d55d94fedbab6eb159510fc57e2d4a7ea2f81acc39e6", func := "broodhouse/broodlaw4.RuleLess", spec := "ruleLess", apart := false }
def RuleLessSaid : Prop := ruleLessRow.holds Try.pinned (OpenSpec.ofChange ruleLessSpec)

/-- ITS FALSE NEIGHBOUR: 'it returns false'. Refute it at one input. -/
def ruleLessWrong : ChangeSpec := { name := "ruleLess", fn := fun _ => fun
  | [d] => { results := [.lit (.bool false)], args := [d] }
  | _ => none }
def RuleLessWrongFalsely : Prop := ruleLessRow.holds Try.pinned (OpenSpec.ofChange ruleLessWrong)

/-- 'broodlaw5.RunWrites': WHATEVER THE INPUT: true; the input reads as it did. -/
def runWritesSpec : ChangeSpec := { name := "runWrites", fn := fun _ => fun
  | [d1, d2] => { results := [.lit (.bool true)], args := [d1, d2] }
  | _ => none }
def runWritesRow : OpenClaim := { program := "ytnbleebilmghcab", sum := "aa7d6bb38264f2b2fc60d55d94fedbab6eb159510fc57e2d4a7ea2f81acc39e6", func := "broodhouse/broodlaw5.RunWrites", spec := "runWrites", inPlace := ["slices.overlaps[broodhouse/api.Row]", "slices.overlaps[broodhouse/api.Table]"], unfollowed := true, recurses := true, apart := false }
def RunWritesSaid : Prop := runWritesRow.holds Try.pinned (OpenSpec.ofChange runWritesSpec)

/-- ITS FALSE NEIGHBOUR: 'it returns false'. Refute it at one input. -/
def runWritesWrong : ChangeSpec := { name := "runWrites", fn := fun _ => fun
  | [d1, d2] => { results := [.lit (.bool false)], args := [d1, d2] }
  | _ => none }
def RunWritesWrongFalsely : Prop := runWritesRow.holds Try.pinned (OpenSpec.ofChange runWritesWrong)

/-- 'broodlaw5.RunBlind': WHATEVER THE INPUT: true; the input reads as it did. -/
def runBlindSpec : ChangeSpec := { name := "runBlind", fn := fun _ => fun
  | [d1, d2, d3, d4] => { results := [.lit (.bool true)], args := [d1, d2, d3, d4] }
  | _ => none }
def runBlindRow : OpenClaim := { program := "ytnbleebilmghcab", sum := "aa7d6bb38264f2b2fc60d55d94fedbab6eb159510fc57e2d4a7ea2f81acc39e6", func := "broodhouse/broodlaw5.RunBlind", spec := "runBlind", inPlace := ["slices.overlaps[broodhouse/api.Row]", "slices.overlaps[broodhouse/api.Table]"], unfollowed := true, recurses := true, apart := false }
def RunBlindSaid : Prop := runBlindRow.holds Try.pinned (OpenSpec.ofChange runBlindSpec)

/-- ITS FALSE NEIGHBOUR: 'it returns false'. Refute it at one input. -/
def runBlindWrong : ChangeSpec := { name := "runBlind", fn := fun _ => fun
  | [d1, d2, d3, d4] => { results := [.lit (.bool false)], args := [d1, d2, d3, d4] }
  | _ => none }
def RunBlindWrongFalsely : Prop := runBlindRow.holds Try.pinned (OpenSpec.ofChange runBlindWrong)

/-- 'broodlaw5.RunOrder': WHATEVER THE INPUT: true; the input reads as it did. -/
def runOrderSpec : ChangeSpec := { name := "runOrder", fn := fun _ => fun
  | [d1, d2, d3] => { results := [.lit (.bool true)], args := [d1, d2, d3] }
  | _ => none }
def runOrderRow : OpenClaim := { program := "ytnbleebilmghcab", sum := "aa7d6bb38264f2b2fc60d55d94fedbab6eb159510fc57e2d4a7ea2f81acc39e6", func := "broodhouse/broodlaw5.RunOrder", spec := "runOrder", inPlace := ["slices.overlaps[broodhouse/api.Row]", "slices.overlaps[broodhouse/api.Table]"], unfollowed := true, recurses := true, apart := false }
def RunOrderSaid : Prop := runOrderRow.holds Try.pinned (OpenSpec.ofChange runOrderSpec)

/-- ITS FALSE NEIGHBOUR: 'it returns false'. Refute it at one input. -/
def runOrderWrong : ChangeSpec := { name := "runOrder", fn := fun _ => fun
  | [d1, d2, d3] => { results := [.lit (.bool false)], args := [d1, d2, d3] }
  | _ => none }
def RunOrderWrongFalsely : Prop := runOrderRow.holds Try.pinned (OpenSpec.ofChange runOrderWrong)

/-- 'broodlaw5.RunNobody': WHATEVER THE INPUT: true; the input reads as it did. -/
def runNobodySpec : ChangeSpec := { name := "runNobody", fn := fun _ => fun
  | [d1, d2] => { results := [.lit (.bool true)], args := [d1, d2] }
  | _ => none }
def runNobodyRow : OpenClaim := { program := "ytnbleebilmghcab", sum := "aa7d6bb38264f2b2fc60d55d94fedbab6eb159510fc57e2d4a7ea2f81acc39e6", func := "broodhouse/broodlaw5.RunNobody", spec := "runNobody", inPlace := ["slices.overlaps[broodhouse/api.Row]", "slices.overlaps[broodhouse/api.Table]"], unfollowed := true, recurses := true, apart := false }
def RunNobodySaid : Prop := runNobodyRow.holds Try.pinned (OpenSpec.ofChange runNobodySpec)

/-- ITS FALSE NEIGHBOUR: 'it returns false'. Refute it at one input. -/
def runNobodyWrong : ChangeSpec := { name := "runNobody", fn := fun _ => fun
  | [d1, d2] => { results := [.lit (.bool false)], args := [d1, d2] }
  | _ => none }
def RunNobodyWrongFalsely : Prop := runNobodyRow.holds Try.pinned (OpenSpec.ofChange runNobodyWrong)

/-- 'broodlaw6.BatchTells': WHATEVER THE INPUT: true; the input reads as it did. -/
def batchTellsSpec : ChangeSpec := { name := "batchTells", fn := fun _ => fun
  | [d] => { results := [.lit (.bool true)], args := [d] }
  | _ => none }
def batchTellsRow : OpenClaim := { program := "ytnbleebilmghcab", sum := "aa7d6bb38264f2b2fc60d55d94fedbab6eb159510fc57e2d4a7ea2f81acc39e6", func := "broodhouse/broodlaw6.BatchTells", spec := "batchTells", unfollowed := true, recurses := true, apart := false }
def BatchTellsSaid : Prop := batchTellsRow.holds Try.pinned (OpenSpec.ofChange batchTellsSpec)

/-- ITS FALSE NEIGHBOUR: 'it returns false'. Refute it at one input. -/
def batchTellsWrong : ChangeSpec := { name := "batchTells", fn := fun _ => fun
  | [d] => { results := [.lit (.bool false)], args := [d] }
  | _ => none }
def BatchTellsWrongFalsely : Prop := batchTellsRow.holds Try.pinned (OpenSpec.ofChange batchTellsWrong)

/-- 'broodlaw6.BatchAll': WHATEVER THE INPUT: true; the input reads as it did. -/
def batchAllSpec : ChangeSpec := { name := "batchAll", fn := fun _ => fun
  | [d] => { results := [.lit (.bool true)], args := [d] }
  | _ => none }
def batchAllRow : OpenClaim := { program := "ytnbleebilmghcab", sum := "aa7d6bb38264f2b2fc60d55d94fedbab6eb159510fc57e2d4a7ea2f81acc39e6", func := "broodhouse/broodlaw6.BatchAll", spec := "batchAll", unfollowed := true, recurses := true, apart := false }
def BatchAllSaid : Prop := batchAllRow.holds Try.pinned (OpenSpec.ofChange batchAllSpec)

/-- ITS FALSE NEIGHBOUR: 'it returns false'. Refute it at one input. -/
def batchAllWrong : ChangeSpec := { name := "batchAll", fn := fun _ => fun
  | [d] => { results := [.lit (.bool false)], args := [d] }
  | _ => none }
def BatchAllWrongFalsely : Prop := batchAllRow.holds Try.pinned (OpenSpec.ofChange batchAllWrong)

/- THE SECOND FORM. 'bulk': how many values and letters a reading holds, each counted each time it is reached (what is shared counts as often as it is met; a slice's spare places count too). A statement '..UptoSaid' is the law's where the arguments, and the package variables that the reading takes, are together of bulk at most 1048576: NARROWER than '..Said'. Prove '..Said' where nothing that the law and all that it calls make is longer than what came in: it says more and counts as full. Else prove '..UptoSaid'. A law counts once. -/
mutual
def uptoBulk {H : Type} : DataW H → Nat
  | .lit (.string bytes) => bytes.length + 1
  | .lit _ => 1
  | .nil => 1
  | .ptr d => uptoBulk d + 1
  | .slice elems spare => uptoBulkAll elems + uptoBulkAll spare + 1
  | .agg parts => uptoBulkAll parts + 1
  | .iface _ d => uptoBulk d + 1
  | .map entries => uptoBulkEntries entries + 1
  | .held _ => 1
def uptoBulkAll {H : Type} : List (DataW H) → Nat
  | [] => 0
  | d :: r => uptoBulk d + uptoBulkAll r
def uptoBulkEntries {H : Type} : List (Lit × DataW H) → Nat
  | [] => 0
  | x :: r => uptoBulkEntry x + uptoBulkEntries r
def uptoBulkEntry {H : Type} : Lit × DataW H → Nat
  | (.string bytes, d) => bytes.length + uptoBulk d + 1
  | (_, d) => uptoBulk d + 1
 end
def uptoSmall : (H : Type) → List (DataW H) → Bool := fun _ ds => decide (uptoBulkAll ds ≤ 1048576)
def OpenSpec.upto (s : _root_.Go.ChangeSpec) : _root_.Go.OpenSpec := { _root_.Go.OpenSpec.ofChange s with cond := some uptoSmall }

/-- 'broodlaw4.RuleBoth', WHERE WHAT IT READS IS OF BULK AT MOST 1048576: true; the input reads as it did. -/
def ruleBothUptoRow : OpenClaim := { program := "ytnbleebilmghcab", sum := "aa7d6bb38264f2b2fc60d55d94fedbab6eb159510fc57e2d4a7ea2f81acc39e6", func := "broodhouse/broodlaw4.RuleBoth", spec := "ruleBoth", apart := false, narrowed := true }
def RuleBothUptoSaid : Prop := ruleBothUptoRow.holds Try.pinned (OpenSpec.upto ruleBothSpec)

/-- 'broodlaw4.RuleLess', WHERE WHAT IT READS IS OF BULK AT MOST 1048576: true; the input reads as it did. -/
def ruleLessUptoRow : OpenClaim := { program := "ytnbleebilmghcab", sum := "aa7d6bb38264f2b2fc60d55d94fedbab6eb159510fc57e2d4a7ea2f81acc39e6", func := "broodhouse/broodlaw4.RuleLess", spec := "ruleLess", apart := false, narrowed := true }
def RuleLessUptoSaid : Prop := ruleLessUptoRow.holds Try.pinned (OpenSpec.upto ruleLessSpec)

/-- 'broodlaw5.RunWrites', WHERE WHAT IT READS IS OF BULK AT MOST 1048576: true; the input reads as it did. -/
def runWritesUptoRow : OpenClaim := { program := "ytnbleebilmghcab", sum := "aa7d6bb38264f2b2fc60d55d94fedbab6eb159510fc57e2d4a7ea2f81acc39e6", func := "broodhouse/broodlaw5.RunWrites", spec := "runWrites", inPlace := ["slices.overlaps[broodhouse/api.Row]", "slices.overlaps[broodhouse/api.Table]"], unfollowed := true, recurses := true, apart := false, narrowed := true }
def RunWritesUptoSaid : Prop := runWritesUptoRow.holds Try.pinned (OpenSpec.upto runWritesSpec)

/-- 'broodlaw5.RunBlind', WHERE WHAT IT READS IS OF BULK AT MOST 1048576: true; the input reads as it did. -/
def runBlindUptoRow : OpenClaim := { program := "ytnbleebilmghcab", sum := "aa7d6bb38264f2b2fc60d55d94fedbab6eb159510fc57e2d4a7ea2f81acc39e6", func := "broodhouse/broodlaw5.RunBlind", spec := "runBlind", inPlace := ["slices.overlaps[broodhouse/api.Row]", "slices.overlaps[broodhouse/api.Table]"], unfollowed := true, recurses := true, apart := false, narrowed := true }
def RunBlindUptoSaid : Prop := runBlindUptoRow.holds Try.pinned (OpenSpec.upto runBlindSpec)

/-- 'broodlaw5.RunOrder', WHERE WHAT IT READS IS OF BULK AT MOST 1048576: true; the input reads as it did. -/
def runOrderUptoRow : OpenClaim := { program := "ytnbleebilmghcab", sum := "aa7d6bb38264f2b2fc60d55d94fedbab6eb159510fc57e2d4a7ea2f81acc39e6", func := "broodhouse/broodlaw5.RunOrder", spec := "runOrder", inPlace := ["slices.overlaps[broodhouse/api.Row]", "slices.overlaps[broodhouse/api.Table]"], unfollowed := true, recurses := true, apart := false, narrowed := true }
def RunOrderUptoSaid : Prop := runOrderUptoRow.holds Try.pinned (OpenSpec.upto runOrderSpec)

/-- 'broodlaw5.RunNobody', WHERE WHAT IT READS IS OF BULK AT MOST 1048576: true; the input reads as it did. -/
def runNobodyUptoRow : OpenClaim := { program := "ytnbleebilmghcab", sum := "aa7d6bb38264f2b2fc60d55d94fedbab6eb159510fc57e2d4a7ea2f81acc39e6", func := "broodhouse/broodlaw5.RunNobody", spec := "runNobody", inPlace := ["slices.overlaps[broodhouse/api.Row]", "slices.overlaps[broodhouse/api.Table]"], unfollowed := true, recurses := true, apart := false, narrowed := true }
def RunNobodyUptoSaid : Prop := runNobodyUptoRow.holds Try.pinned (OpenSpec.upto runNobodySpec)

/-- 'broodlaw6.BatchTells', WHERE WHAT IT READS IS OF BULK AT MOST 1048576: true; the input reads as it did. -/
def batchTellsUptoRow : OpenClaim := { program := "ytnbleebilmghcab", sum := "aa7d6bb38264f2b2fc60d55d94fedbab6eb159510fc57e2d4a7ea2f81acc39e6", func := "broodhouse/broodlaw6.BatchTells", spec := "batchTells", unfollowed := true, recurses := true, apart := false, narrowed := true }
def BatchTellsUptoSaid : Prop := batchTellsUptoRow.holds Try.pinned (OpenSpec.upto batchTellsSpec)

/-- 'broodlaw6.BatchAll', WHERE WHAT IT READS IS OF BULK AT MOST 1048576: true; the input reads as it did. -/
def batchAllUptoRow : OpenClaim := { program := "ytnbleebilmghcab", sum := "aa7d6bb38264f2b2fc60d55d94fedbab6eb159510fc57e2d4a7ea2f81acc39e6", func := "broodhouse/broodlaw6.BatchAll", spec := "batchAll", unfollowed := true, recurses := true, apart := false, narrowed := true }
def BatchAllUptoSaid : Prop := batchAllUptoRow.holds Try.pinned (OpenSpec.upto batchAllSpec)

end Rows
end Go.Proofs.Ytnbleebilmghcab
