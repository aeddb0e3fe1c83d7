/-
  No cell of these rows narrows 'for every input' (looked for: loops, veiled, ifaces, maps, wideKeys, modest, calm, conditions, laid).
  DERIVED. THE GIVEN ROWS OF THIS SEAT. 12 by the template 'for every input the law returns true; each argument reads behind the call as it read before'; 0 by the template 'total and deterministic' (their statements: YtnbleebilmghcaaTotals.lean).
  GIVEN WITH THE SEED: the statements are not yours to turn. If you find one false, say at which input.
  Laid BY PROGRAM, IN A SANDBOX (cutbox-rows.mjs): the forced cells as the released guide's own fill.sh prints them over the translation 4c7175461abaff75… (all of the seat's roots in one cut). By AI agents, Wed Nov 11 2026. No macro, syntax, notation, axiom, sorry.
-/
import Derived.Test.YtnbleebilmghcaaChecked
import GoSem.Claim
import GoSem.ClaimJoined
import GoSem.ClaimMapViews
import Derived.JoinedTies
import Derived.KernelRfl
namespace Go.Proofs.Ytnbleebilmghcaa
/- THE CELL 'sum', in the pinned program and in every row, IS THE sha256 OF THE DUMP (.gsa) THAT YtnbleebilmghcaaProg.lean LOADS. Nothing in Lean hashes anything: it is a label: what it is worth is what the hold of that sum in a sandbox is worth. -/
noncomputable def Try.pinned : Pinned := { name := "ytnbleebilmghcaa", sum := "4c7175461abaff75b0aea5cff43cd73e16547fd24b647a073c596d8513db49f4", checked := Try.checked }
namespace Rows
def none {H : Type} : Left H := { results := [], args := [] }

/-- 'broodlaw1.PartsTells': WHATEVER THE INPUT: true; the input reads as it did. -/
def partsTellsSpec : ChangeSpec := { name := "partsTells", fn := fun _ => fun
  | [d1, d2, d3, d4] => { results := [.lit (.bool true)], args := [d1, d2, d3, d4] }
  | _ => none }
def partsTellsRow : OpenClaim := { program := "ytnbleebilmghcaa", sum := "4c7175461abaff75b0aea5cff43cd73e16547fd24b647a073c596d8513db49f4", func := "broodhouse/broodlaw1.PartsTells", spec := "partsTells", apart := false }
def PartsTellsSaid : Prop := partsTellsRow.holds Try.pinned (OpenSpec.ofChange partsTellsSpec)

/-- ITS FALSE NEIGHBOUR: 'it returns false'. Refute it at one input. -/
def partsTellsWrong : ChangeSpec := { name := "partsTells", fn := fun _ => fun
  | [d1, d2, d3, d4] => { results := [.lit (.bool false)], args := [d1, d2, d3, d4] }
  | _ => none }
def PartsTellsWrongFalsely : Prop := partsTellsRow.holds Try.pinned (OpenSpec.ofChange partsTellsWrong)

/-- 'broodlaw1.PartsMore': WHATEVER THE INPUT: true; the input reads as it did. -/
def partsMoreSpec : ChangeSpec := { name := "partsMore", fn := fun _ => fun
  | [d1, d2, d3, d4] => { results := [.lit (.bool true)], args := [d1, d2, d3, d4] }
  | _ => none }
def partsMoreRow : OpenClaim := { program := "ytnbleebilmghcaa", sum := "4c7175461abaff75b0aea5cff43cd73e16547fd24b647a073c596d8513db49f4", func := "broodhouse/broodlaw1.PartsMore", spec := "partsMore", apart := false }
def PartsMoreSaid : Prop := partsMoreRow.holds Try.pinned (OpenSpec.ofChange partsMoreSpec)

/-- ITS FALSE NEIGHBOUR: 'it returns false'. Refute it at one input. -/
def partsMoreWrong : ChangeSpec := { name := "partsMore", fn := fun _ => fun
  | [d1, d2, d3, d4] => { results := [.lit (.bool false)], args := [d1, d2, d3, d4] }
  | _ => none }
def PartsMoreWrongFalsely : Prop := partsMoreRow.holds Try.pinned (OpenSpec.ofChange partsMoreWrong)

/-- 'broodlaw2.PlainTells': WHATEVER THE INPUT: true; the input reads as it did. -/
def plainTellsSpec : ChangeSpec := { name := "plainTells", fn := fun _ => fun
  | [d1, d2, d3, d4, d5, d6] => { results := [.lit (.bool true)], args := [d1, d2, d3, d4, d5, d6] }
  | _ => none }
def plainTellsRow : OpenClaim := { program := "ytnbleebilmghcaa", sum := "4c7175461abaff75b0aea5cff43cd73e16547fd24b647a073c596d8513db49f4", func := "broodhouse/broodlaw2.PlainTells", spec := "plainTells", inPlace := ["slices.overlaps[broodhouse/api.Row]"], unfollowed := true, recurses := true, apart := false }
def PlainTellsSaid : Prop := plainTellsRow.holds Try.pinned (OpenSpec.ofChange plainTellsSpec)

/-- ITS FALSE NEIGHBOUR: 'it returns false'. Refute it at one input. -/
def plainTellsWrong : ChangeSpec := { name := "plainTells", fn := fun _ => fun
  | [d1, d2, d3, d4, d5, d6] => { results := [.lit (.bool false)], args := [d1, d2, d3, d4, d5, d6] }
  | _ => none }
def PlainTellsWrongFalsely : Prop := plainTellsRow.holds Try.pinned (OpenSpec.ofChange plainTellsWrong)

/-- 'broodlaw2.PlainRight': WHATEVER THE INPUT: true; the input reads as it did. -/
def plainRightSpec : ChangeSpec := { name := "plainRight", fn := fun _ => fun
  | [d1, d2, d3, d4, d5, d6] => { results := [.lit (.bool true)], args := [d1, d2, d3, d4, d5, d6] }
  | _ => none }
def plainRightRow : OpenClaim := { program := "ytnbleebilmghcaa", sum := "4c7175461abaff75b0aea5cff43cd73e16547fd24b647a073c596d8513db49f4", func := "broodhouse/broodlaw2.PlainRight", spec := "plainRight", inPlace := ["slices.overlaps[broodhouse/api.Row]"], unfollowed := true, recurses := true, apart := false }
def PlainRightSaid : Prop := plainRightRow.holds Try.pinned (OpenSpec.ofChange plainRightSpec)

/-- ITS FALSE NEIGHBOUR: 'it returns false'. Refute it at one input. -/
def plainRightWrong : ChangeSpec := { name := "plainRight", fn := fun _ => fun
  | [d1, d2, d3, d4, d5, d6] => { results := [.lit (.bool false)], args := [d1, d2, d3, d4, d5, d6] }
  | _ => none }
def PlainRightWrongFalsely : Prop := plainRightRow.holds Try.pinned (OpenSpec.ofChange plainRightWrong)

/-- 'broodlaw2.PlainNew': WHATEVER THE INPUT: true; the input reads as it did. -/
def plainNewSpec : ChangeSpec := { name := "plainNew", fn := fun _ => fun
  | [d1, d2, d3] => { results := [.lit (.bool true)], args := [d1, d2, d3] }
  | _ => none }
def plainNewRow : OpenClaim := { program := "ytnbleebilmghcaa", sum := "4c7175461abaff75b0aea5cff43cd73e16547fd24b647a073c596d8513db49f4", func := "broodhouse/broodlaw2.PlainNew", spec := "plainNew", inPlace := ["slices.overlaps[broodhouse/api.Row]"], unfollowed := true, recurses := true, apart := false }
def PlainNewSaid : Prop := plainNewRow.holds Try.pinned (OpenSpec.ofChange plainNewSpec)

/-- ITS FALSE NEIGHBOUR: 'it returns false'. Refute it at one input. -/
def plainNewWrong : ChangeSpec := { name := "plainNew", fn := fun _ => fun
  | [d1, d2, d3] => { results := [.lit (.bool false)], args := [d1, d2, d3] }
  | _ => none }
def PlainNewWrongFalsely : Prop := plainNewRow.holds Try.pinned (OpenSpec.ofChange plainNewWrong)

/-- 'broodlaw2.PlainPut': WHATEVER THE INPUT: true; the input reads as it did. -/
def plainPutSpec : ChangeSpec := { name := "plainPut", fn := fun _ => fun
  | [d1, d2, d3, d4, d5] => { results := [.lit (.bool true)], args := [d1, d2, d3, d4, d5] }
  | _ => none }
def plainPutRow : OpenClaim := { program := "ytnbleebilmghcaa", sum := "4c7175461abaff75b0aea5cff43cd73e16547fd24b647a073c596d8513db49f4", func := "broodhouse/broodlaw2.PlainPut", spec := "plainPut", inPlace := ["slices.overlaps[broodhouse/api.Row]"], unfollowed := true, recurses := true, apart := false }
def PlainPutSaid : Prop := plainPutRow.holds Try.pinned (OpenSpec.ofChange plainPutSpec)

/-- ITS FALSE NEIGHBOUR: 'it returns false'. Refute it at one input. -/
def plainPutWrong : ChangeSpec := { name := "plainPut", fn := fun _ => fun
  | [d1, d2, d3, d4, d5] => { results := [.lit (.bool false)], args := [d1, d2, d3, d4, d5] }
  | _ => none }
def PlainPutWrongFalsely : Prop := plainPutRow.holds Try.pinned (OpenSpec.ofChange plainPutWrong)

/-- 'broodlaw3.StoreTells': WHATEVER THE INPUT: true; the input reads as it did. -/
def storeTellsSpec : ChangeSpec := { name := "storeTells", fn := fun _ => fun
  | [d1, d2, d3, d4, d5, d6] => { results := [.lit (.bool true)], args := [d1, d2, d3, d4, d5, d6] }
  | _ => none }
def storeTellsRow : OpenClaim := { program := "ytnbleebilmghcaa", sum := "4c7175461abaff75b0aea5cff43cd73e16547fd24b647a073c596d8513db49f4", func := "broodhouse/broodlaw3.StoreTells", spec := "storeTells", inPlace := ["slices.overlaps[broodhouse/api.Table]", "slices.overlaps[broodhouse/api.Row]"], unfollowed := true, recurses := true, apart := false }
def StoreTellsSaid : Prop := storeTellsRow.holds Try.pinned (OpenSpec.ofChange storeTellsSpec)

/-- ITS FALSE NEIGHBOUR: 'it returns false'. Refute it at one input. -/
def storeTellsWrong : ChangeSpec := { name := "storeTells", fn := fun _ => fun
  | [d1, d2, d3, d4, d5, d6] => { results := [.lit (.bool false)], args := [d1, d2, d3, d4, d5, d6] }
  | _ => none }
def StoreTellsWrongFalsely : Prop := storeTellsRow.holds Try.pinned (OpenSpec.ofChange storeTellsWrong)

/-- 'broodlaw3.StoreBoth': WHATEVER THE INPUT: true; the input reads as it did. -/
def storeBothSpec : ChangeSpec := { name := "storeBoth", fn := fun _ => fun
  | [d1, d2, d3, d4] => { results := [.lit (.bool true)], args := [d1, d2, d3, d4] }
  | _ => none }
def storeBothRow : OpenClaim := { program := "ytnbleebilmghcaa", sum := "4c7175461abaff75b0aea5cff43cd73e16547fd24b647a073c596d8513db49f4", func := "broodhouse/broodlaw3.StoreBoth", spec := "storeBoth", inPlace := ["slices.overlaps[broodhouse/api.Row]", "slices.overlaps[broodhouse/api.Table]"], unfollowed := true, recurses := true, apart := false }
def StoreBothSaid : Prop := storeBothRow.holds Try.pinned (OpenSpec.ofChange storeBothSpec)

/-- ITS FALSE NEIGHBOUR: 'it returns false'. Refute it at one input. -/
def storeBothWrong : ChangeSpec := { name := "storeBoth", fn := fun _ => fun
  | [d1, d2, d3, d4] => { results := [.lit (.bool false)], args := [d1, d2, d3, d4] }
  | _ => none }
def StoreBothWrongFalsely : Prop := storeBothRow.holds Try.pinned (OpenSpec.ofChange storeBothWrong)

/-- 'broodlaw3.StoreSteps': WHATEVER THE INPUT: true; the input reads as it did. -/
def storeStepsSpec : ChangeSpec := { name := "storeSteps", fn := fun _ => fun
  | [d1, d2, d3, d4, d5] => { results := [.lit (.bool true)], args := [d1, d2, d3, d4, d5] }
  | _ => none }
def storeStepsRow : OpenClaim := { program := "ytnbleebilmghcaa", sum := "4c7175461abaff75b0aea5cff43cd73e16547fd24b647a073c596d8513db49f4", func := "broodhouse/broodlaw3.StoreSteps", spec := "storeSteps", inPlace := ["slices.overlaps[broodhouse/api.Row]", "slices.overlaps[broodhouse/api.Table]"], unfollowed := true, recurses := true, apart := false }
def StoreStepsSaid : Prop := storeStepsRow.holds Try.pinned (OpenSpec.ofChange storeStepsSpec)

/-- ITS FALSE NEIGHBOUR: 'it returns false'. Refute it at one input. -/
def storeStepsWrong : ChangeSpec := { name := "storeSteps", fn := fun _ => fun
  | [d1, d2, d3, d4, d5] => { results := [.lit (.bool false)], args := [d1, d2, d3, d4, d5] }
  | _ => none }
def StoreStepsWrongFalsely : Prop := storeStepsRow.holds Try.pinned (OpenSpec.ofChange storeStepsWrong)

/-- 'broodlaw3.StoreTables': WHATEVER THE INPUT: true; the input reads as it did. -/
def storeTablesSpec : ChangeSpec := { name := "storeTables", fn := fun _ => fun
  | [d] => { results := [.lit (.bool true)], args := [d] }
  | _ => none }
def storeTablesRow : OpenClaim := { program := "ytnbleebilmghcaa", sum := "4c7175461abaff75b0aea5cff43cd73e16547fd24b647a073c596d8513db49f4", func := "broodhouse/broodlaw3.StoreTables", spec := "storeTables", inPlace := ["slices.overlaps[broodhouse/api.Row]", "slices.overlaps[broodhouse/api.Table]"], unfollowed := true, recurses := true, apart := false }
def StoreTablesSaid : Prop := storeTablesRow.holds Try.pinned (OpenSpec.ofChange storeTablesSpec)

/-- ITS FALSE NEIGHBOUR: 'it returns false'. Refute it at one input. -/
def storeTablesWrong : ChangeSpec := { name := "storeTables", fn := fun _ => fun
  | [d] => { results := [.lit (.bool false)], args := [d] }
  | _ => none }
def StoreTablesWrongFalsely : Prop := storeTablesRow.holds Try.pinned (OpenSpec.ofChange storeTablesWrong)

/-- 'broodlaw4.RuleTells': WHATEVER THE INPUT: true; the input reads as it did. -/
def ruleTellsSpec : ChangeSpec := { name := "ruleTells", fn := fun _ => fun
  | [d1, d2, d3] => { results := [.lit (.bool true)], args := [d1, d2, d3] }
  | _ => none }
def ruleTellsRow : OpenClaim := { program := "ytnbleebilmghcaa", sum := "4c7175461abaff75b0aea5cff43cd73e16547fd24b647a073c596d8513db49f4", func := "broodhouse/broodlaw4.RuleTells", spec := "ruleTells", apart := false }
def RuleTellsSaid : Prop := ruleTellsRow.holds Try.pinned (OpenSpec.ofChange ruleTellsSpec)

/-- ITS FALSE NEIGHBOUR: 'it returns false'. Refute it at one input. -/
def ruleTellsWrong : ChangeSpec := { name := "ruleTells", fn := fun _ => fun
  | [d1, d2, d3] => { results := [.lit (.bool false)], args := [d1, d2, d3] }
  | _ => none }
def RuleTellsWrongFalsely : Prop := ruleTellsRow.holds Try.pinned (OpenSpec.ofChange ruleTellsWrong)

/-- 'broodlaw4.RuleMore': WHATEVER THE INPUT: true; the input reads as it did. -/
def ruleMoreSpec : ChangeSpec := { name := "ruleMore", fn := fun _ => fun
  | [d1, d2, d3] => { results := [.lit (.bool true)], args := [d1, d2, d3] }
  | _ => none }
def ruleMoreRow : OpenClaim := { program := "ytnbleebilmghcaa", sum := "4c7175461abaff75b0aea5cff43cd73e16547fd24b647a073c596d8513db49f4", func := "broodhouse/broodlaw4.RuleMore", spec := "ruleMore", apart := false }
def RuleMoreSaid : Prop := ruleMoreRow.holds Try.pinned (OpenSpec.ofChange ruleMoreSpec)

/-- ITS FALSE NEIGHBOUR: 'it returns false'. Refute it at one input. -/
def ruleMoreWrong : ChangeSpec := { name := "ruleMore", fn := fun _ => fun
  | [d1, d2, d3] => { results := [.lit (.bool false)], args := [d1, d2, d3] }
  | _ => none }
def RuleMoreWrongFalsely : Prop := ruleMoreRow.holds Try.pinned (OpenSpec.ofChange ruleMoreWrong)

/- THE SECOND FORM. 'bulk': how many values and letters a reading holds, each counted each time it is reached (what is shared counts as often as it is met; a slice's spare places count too). A statement '..UptoSaid' is the law's where the arguments, and the package variables that the reading takes, are together of bulk at most 1048576: NARROWER than '..Said'. Prove '..Said' where nothing that the law and all that it calls make is longer than what came in: it says more and counts as full. Else prove '..UptoSaid'. A law counts once. -/
mutual
def uptoBulk {H : Type} : DataW H → Nat
  | .lit (.string bytes) => bytes.length + 1
  | .lit _ => 1
  | .nil => 1
  | .ptr d => uptoBulk d + 1
  | .slice elems spare => uptoBulkAll elems + uptoBulkAll spare + 1
  | .agg parts => uptoBulkAll parts + 1
  | .iface _ d => uptoBulk d + 1
  | .map entries => uptoBulkEntries entries + 1
  | .held _ => 1
def uptoBulkAll {H : Type} : List (DataW H) → Nat
  | [] => 0
  | d :: r => uptoBulk d + uptoBulkAll r
def uptoBulkEntries {H : Type} : List (Lit × DataW H) → Nat
  | [] => 0
  | x :: r => uptoBulkEntry x + uptoBulkEntries r
def uptoBulkEntry {H : Type} : Lit × DataW H → Nat
  | (.string bytes, d) => bytes.length + uptoBulk d + 1
  | (_, d) => uptoBulk d + 1
 end
def uptoSmall : (H : Type) → List (DataW H) → Bool := fun _ ds => decide (uptoBulkAll ds ≤ 1048576)
def OpenSpec.upto (s : _root_.Go.ChangeSpec) : _root_.Go.OpenSpec := { _root_.Go.OpenSpec.ofChange s with cond := some uptoSmall }

/-- 'broodlaw1.PartsTells', WHERE WHAT IT READS IS OF BULK AT MOST 1048576: true; the input reads as it did. -/
def partsTellsUptoRow : OpenClaim := { program := "ytnbleebilmghcaa", sum := "4c7175461abaff75b0aea5cff43cd73e16547fd24b647a073c596d8513db49f4", func := "broodhouse/broodlaw1.PartsTells", spec := "partsTells", apart := false, narrowed := true }
def PartsTellsUptoSaid : Prop := partsTellsUptoRow.holds Try.pinned (OpenSpec.upto partsTellsSpec)

/-- 'broodlaw1.PartsMore', WHERE WHAT IT READS IS OF BULK AT MOST 1048576: true; the input reads as it did. -/
def partsMoreUptoRow : OpenClaim := { program := "ytnbleebilmghcaa", sum := "4c7175461abaff75b0aea5cff43cd73e16547fd24b647a073c596d8513db49f4", func := "broodhouse/broodlaw1.PartsMore", spec := "partsMore", apart := false, narrowed := true }
def PartsMoreUptoSaid : Prop := partsMoreUptoRow.holds Try.pinned (OpenSpec.upto partsMoreSpec)

/-- 'broodlaw2.PlainTells', WHERE WHAT IT READS IS OF BULK AT MOST 1048576: true; the input reads as it did. -/
def plainTellsUptoRow : OpenClaim := { program := "ytnbleebilmghcaa", sum := "4c7175461abaff75b0aea5cff43cd73e16547fd24b647a073c596d8513db49f4", func := "broodhouse/broodlaw2.PlainTells", spec := "plainTells", inPlace := ["slices.overlaps[broodhouse/api.Row]"], unfollowed := true, recurses := true, apart := false, narrowed := true }
def PlainTellsUptoSaid : Prop := plainTellsUptoRow.holds Try.pinned (OpenSpec.upto plainTellsSpec)

/-- 'broodlaw2.PlainRight', WHERE WHAT IT READS IS OF BULK AT MOST 1048576: true; the input reads as it did. -/
def plainRightUptoRow : OpenClaim := { program := "ytnbleebilmghcaa", sum := "4c7175461abaff75b0aea5cff43cd73e16547fd24b647a073c596d8513db49f4", func := "broodhouse/broodlaw2.PlainRight", spec := "plainRight", inPlace := ["slices.overlaps[broodhouse/api.Row]"], unfollowed := true, recurses := true, apart := false, narrowed := true }
def PlainRightUptoSaid : Prop := plainRightUptoRow.holds Try.pinned (OpenSpec.upto plainRightSpec)

/-- 'broodlaw2.PlainNew', WHERE WHAT IT READS IS OF BULK AT MOST 1048576: true; the input reads as it did. -/
def plainNewUptoRow : OpenClaim := { program := "ytnbleebilmghcaa", sum := "4c7175461abaff75b0aea5cff43cd73e16547fd24b647a073c596d8513db49f4", func := "broodhouse/broodlaw2.PlainNew", spec := "plainNew", inPlace := ["slices.overlaps[broodhouse/api.Row]"], unfollowed := true, recurses := true, apart := false, narrowed := true }
def PlainNewUptoSaid : Prop := plainNewUptoRow.holds Try.pinned (OpenSpec.upto plainNewSpec)

/-- 'broodlaw2.PlainPut', WHERE WHAT IT READS IS OF BULK AT MOST 1048576: true; the input reads as it did. -/
def plainPutUptoRow : OpenClaim := { program := "ytnbleebilmghcaa", sum := "4c7175461abaff75b0aea5cff43cd73e16547fd24b647a073c596d8513db49f4", func := "broodhouse/broodlaw2.PlainPut", spec := "plainPut", inPlace := ["slices.overlaps[broodhouse/api.Row]"], unfollowed := true, recurses := true, apart := false, narrowed := true }
def PlainPutUptoSaid : Prop := plainPutUptoRow.holds Try.pinned (OpenSpec.upto plainPutSpec)

/-- 'broodlaw3.StoreTells', WHERE WHAT IT READS IS OF BULK AT MOST 1048576: true; the input reads as it did. -/
def storeTellsUptoRow : OpenClaim := { program := "ytnbleebilmghcaa", sum := "4c7175461abaff75b0aea5cff43cd73e16547fd24b647a073c596d8513db49f4", func := "broodhouse/broodlaw3.StoreTells", spec := "storeTells", inPlace := ["slices.overlaps[broodhouse/api.Table]", "slices.overlaps[broodhouse/api.Row]"], unfollowed := true, recurses := true, apart := false, narrowed := true }
def StoreTellsUptoSaid : Prop := storeTellsUptoRow.holds Try.pinned (OpenSpec.upto storeTellsSpec)

/-- 'broodlaw3.StoreBoth', WHERE WHAT IT READS IS OF BULK AT MOST 1048576: true; the input reads as it did. -/
def storeBothUptoRow : OpenClaim := { program := "ytnbleebilmghcaa", sum := "4c7175461abaff75b0aea5cff43cd73e16547fd24b647a073c596d8513db49f4", func := "broodhouse/broodlaw3.StoreBoth", spec := "storeBoth", inPlace := ["slices.overlaps[broodhouse/api.Row]", "slices.overlaps[broodhouse/api.Table]"], unfollowed := true, recurses := true, apart := false, narrowed := true }
def StoreBothUptoSaid : Prop := storeBothUptoRow.holds Try.pinned (OpenSpec.upto storeBothSpec)

/-- 'broodlaw3.StoreSteps', WHERE WHAT IT READS IS OF BULK AT MOST 1048576: true; the input reads as it did. -/
def storeStepsUptoRow : OpenClaim := { program := "ytnbleebilmghcaa", sum := "4c7175461abaff75b0aea5cff43cd73e16547fd24b647a073c596d8513db49f4", func := "broodhouse/broodlaw3.StoreSteps", spec := "storeSteps", inPlace := ["slices.overlaps[broodhouse/api.Row]", "slices.overlaps[broodhouse/api.Table]"], unfollowed := true, recurses := true, apart := false, narrowed := true }
def StoreStepsUptoSaid : Prop := storeStepsUptoRow.holds Try.pinned (OpenSpec.upto storeStepsSpec)

/-- 'broodlaw3.StoreTables', WHERE WHAT IT READS IS OF BULK AT MOST 1048576: true; the input reads as it did. -/
def storeTablesUptoRow : OpenClaim := { program := "ytnbleebilmghcaa", sum := "4c7175461abaff75b0aea5cff43cd73e16547fd24b647a073c596d8513db49f4", func := "broodhouse/broodlaw3.StoreTables", spec := "storeTables", inPlace := ["slices.overlaps[broodhouse/api.Row]", "slices.overlaps[broodhouse/api.Table]"], unfollowed := true, recurses := true, apart := false, narrowed := true }
def StoreTablesUptoSaid : Prop := storeTablesUptoRow.holds Try.pinned (OpenSpec.upto storeTablesSpec)

/-- 'broodlaw4.RuleTells', WHERE WHAT IT READS IS OF BULK AT MOST 1048576: true; the input reads as it did. -/
def ruleTellsUptoRow : OpenClaim := { program := "ytnbleebilmghcaa", sum := "4c7175461abaff75b0aea5cff43cd73e16547fd24b647a073c596d8513db49f4", func := "broodhouse/broodlaw4.RuleTells", spec := "ruleTells", apart := false, narrowed := true }
def RuleTellsUptoSaid : Prop := ruleTellsUptoRow.holds Try.pinned (OpenSpec.upto ruleTellsSpec)

/-- 'broodlaw4.RuleMore', WHERE WHAT IT READS IS OF BULK AT MOST 1048576: true; the input reads as it did. -/
def ruleMoreUptoRow : OpenClaim := { program := "ytnbleebilmghcaa", sum := "4c7175461abaff75b0aea5cff43cd73e16547fd24b647a073c596d8513db49f4", func := "broodhouse/broodlaw4.RuleMore", spec := "ruleMore", apart := false, narrowed := true }
def RuleMoreUptoSaid : Prop := ruleMoreUptoRow.holds Try.pinned (OpenSpec.upto ruleMoreSpec)

end Rows
end Go.Proofs.Ytnbleebilmghcaa
