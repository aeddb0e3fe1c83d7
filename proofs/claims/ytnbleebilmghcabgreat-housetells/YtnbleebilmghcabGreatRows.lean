/-
  No cell of these rows narrows 'for every input' (looked for: loops, veiled, ifaces, maps, wideKeys, modest, calm, conditions, laid).
  DERIVED. THE GIVEN ROWS OF THIS SEAT. 4 by the template 'for every input the law returns true; each argument reads behind the call as it read before'; 0 by the template 'total and deterministic' (their statements: YtnbleebilmghcabGreatTotals.lean).
  GIVEN WITH THE SEED: the statements are not yours to turn. If you find one false, say at which input.
  Laid BY PROGRAM, IN A SANDBOX (cutbox-rows.mjs): the forced cells as the released guide's own fill.sh prints them over the translation 694e4a2775bc8688… (all of the seat's roots in one cut). By AI agents, Wed Nov 11 2026. No macro, syntax, notation, axiom, sorry.
-/
import Derived.Test.YtnbleebilmghcabGreatChecked
import GoSem.Claim
import GoSem.ClaimJoined
import GoSem.ClaimMapViews
import Derived.JoinedTies
import Derived.KernelRfl
namespace Go.Proofs.YtnbleebilmghcabGreat
/- THE CELL 'sum', in the pinned program and in every row, IS THE sha256 OF THE DUMP (.gsa) THAT YtnbleebilmghcabGreatProg.lean LOADS. Nothing in Lean hashes anything: it is a label: what it is worth is what the hold of that sum in a sandbox is worth. -/
noncomputable def Tryz.pinned : Pinned := { name := "ytnbleebilmghcabgreat", sum := "694e4a2775bc86888e9fcf44e5df9098cfb6fddfa62fe703d3f6aee4e83916de", checked := Tryz.checked }
namespace Rows
def none {H : Type} : Left H := { results := [], args := [] }

/-- 'broodlaw5.RunTells': WHATEVER THE INPUT: true; the input reads as it did. -/
def runTellsSpec : ChangeSpec := { name := "runTells", fn := fun _ => fun
  | [d1, d2] => { results := [.lit (.bool true)], args := [d1, d2] }
  | _ => none }
def runTellsRow : OpenClaim := { program := "ytnbleebilmghcabgreat", sum := "694e4a2775bc86888e9fcf44e5df9098cfb6fddfa62fe703d3f6aee4e83916de", func := "broodhouse/broodlaw5.RunTells", spec := "runTells", inPlace := ["slices.overlaps[broodhouse/api.Row]", "slices.overlaps[broodhouse/api.Table]"], unfollowed := true, recurses := true, apart := false }
def RunTellsSaid : Prop := runTellsRow.holds Tryz.pinned (OpenSpec.ofChange runTellsSpec)

/-- ITS FALSE NEIGHBOUR: 'it returns false'. Refute it at one input. -/
def runTellsWrong : ChangeSpec := { name := "runTells", fn := fun _ => fun
  | [d1, d2] => { results := [.lit (.bool false)], args := [d1, d2] }
  | _ => none }
def RunTellsWrongFalsely : Prop := runTellsRow.holds Tryz.pinned (OpenSpec.ofChange runTellsWrong)

/-- 'broodlaw6.BatchSame': WHATEVER THE INPUT: true; the input reads as it did. -/
def batchSameSpec : ChangeSpec := { name := "batchSame", fn := fun _ => fun
  | [d1, d2, d3] => { results := [.lit (.bool true)], args := [d1, d2, d3] }
  | _ => none }
def batchSameRow : OpenClaim := { program := "ytnbleebilmghcabgreat", sum := "694e4a2775bc86888e9fcf44e5df9098cfb6fddfa62fe703d3f6aee4e83916de", func := "broodhouse/broodlaw6.BatchSame", spec := "batchSame", inPlace := ["slices.overlaps[broodhouse/api.Table]", "slices.overlaps[broodhouse/api.Row]"], unfollowed := true, recurses := true, apart := false }
def BatchSameSaid : Prop := batchSameRow.holds Tryz.pinned (OpenSpec.ofChange batchSameSpec)

/-- ITS FALSE NEIGHBOUR: 'it returns false'. Refute it at one input. -/
def batchSameWrong : ChangeSpec := { name := "batchSame", fn := fun _ => fun
  | [d1, d2, d3] => { results := [.lit (.bool false)], args := [d1, d2, d3] }
  | _ => none }
def BatchSameWrongFalsely : Prop := batchSameRow.holds Tryz.pinned (OpenSpec.ofChange batchSameWrong)

/-- 'broodlaw7.HouseTells': WHATEVER THE INPUT: true; the input reads as it did. -/
def houseTellsSpec : ChangeSpec := { name := "houseTells", fn := fun _ => fun
  | [d1, d2] => { results := [.lit (.bool true)], args := [d1, d2] }
  | _ => none }
def houseTellsRow : OpenClaim := { program := "ytnbleebilmghcabgreat", sum := "694e4a2775bc86888e9fcf44e5df9098cfb6fddfa62fe703d3f6aee4e83916de", func := "broodhouse/broodlaw7.HouseTells", spec := "houseTells", inPlace := ["slices.overlaps[broodhouse/api.Row]", "slices.overlaps[broodhouse/api.Table]"], unfollowed := true, recurses := true, apart := false }
def HouseTellsSaid : Prop := houseTellsRow.holds Tryz.pinned (OpenSpec.ofChange houseTellsSpec)

/-- ITS FALSE NEIGHBOUR: 'it returns false'. Refute it at one input. -/
def houseTellsWrong : ChangeSpec := { name := "houseTells", fn := fun _ => fun
  | [d1, d2] => { results := [.lit (.bool false)], args := [d1, d2] }
  | _ => none }
def HouseTellsWrongFalsely : Prop := houseTellsRow.holds Tryz.pinned (OpenSpec.ofChange houseTellsWrong)

/-- 'broodlaw7.HouseRight': WHATEVER THE INPUT: true; the input reads as it did. -/
def houseRightSpec : ChangeSpec := { name := "houseRight", fn := fun _ => fun
  | [d1, d2] => { results := [.lit (.bool true)], args := [d1, d2] }
  | _ => none }
def houseRightRow : OpenClaim := { program := "ytnbleebilmghcabgreat", sum := "694e4a2775bc86888e9fcf44e5df9098cfb6fddfa62fe703d3f6aee4e83916de", func := "broodhouse/broodlaw7.HouseRight", spec := "houseRight", inPlace := ["slices.overlaps[broodhouse/api.Row]", "slices.overlaps[broodhouse/api.Table]"], unfollowed := true, recurses := true, apart := false }
def HouseRightSaid : Prop := houseRightRow.holds Tryz.pinned (OpenSpec.ofChange houseRightSpec)

/-- ITS FALSE NEIGHBOUR: 'it returns false'. Refute it at one input. -/
def houseRightWrong : ChangeSpec := { name := "houseRight", fn := fun _ => fun
  | [d1, d2] => { results := [.lit (.bool false)], args := [d1, d2] }
  | _ => none }
def HouseRightWrongFalsely : Prop := houseRightRow.holds Tryz.pinned (OpenSpec.ofChange houseRightWrong)

/- THE SECOND FORM. 'bulk': how many values and letters a reading holds, each counted each time it is reached (what is shared counts as often as it is met; a slice's spare places count too). A statement '..UptoSaid' is the law's where the arguments, and the package variables that the reading takes, are together of bulk at most 1048576: NARROWER than '..Said'. Prove '..Said' where nothing that the law and all that it calls make is longer than what came in: it says more and counts as full. Else prove '..UptoSaid'. A law counts once. -/
mutual
def uptoBulk {H : Type} : DataW H → Nat
  | .lit (.string bytes) => bytes.length + 1
  | .lit _ => 1
  | .nil => 1
  | .ptr d => uptoBulk d + 1
  | .slice elems spare => uptoBulkAll elems + uptoBulkAll spare + 1
  | .agg parts => uptoBulkAll parts + 1
  | .iface _ d => uptoBulk d + 1
  | .map entries => uptoBulkEntries entries + 1
  | .held _ => 1
def uptoBulkAll {H : Type} : List (DataW H) → Nat
  | [] => 0
  | d :: r => uptoBulk d + uptoBulkAll r
def uptoBulkEntries {H : Type} : List (Lit × DataW H) → Nat
  | [] => 0
  | x :: r => uptoBulkEntry x + uptoBulkEntries r
def uptoBulkEntry {H : Type} : Lit × DataW H → Nat
  | (.string bytes, d) => bytes.length + uptoBulk d + 1
  | (_, d) => uptoBulk d + 1
 end
def uptoSmall : (H : Type) → List (DataW H) → Bool := fun _ ds => decide (uptoBulkAll ds ≤ 1048576)
def OpenSpec.upto (s : _root_.Go.ChangeSpec) : _root_.Go.OpenSpec := { _root_.Go.OpenSpec.ofChange s with cond := some uptoSmall }

/-- 'broodlaw5.RunTells', WHERE WHAT IT READS IS OF BULK AT MOST 1048576: true; the input reads as it did. -/
def runTellsUptoRow : OpenClaim := { program := "ytnbleebilmghcabgreat", sum := "694e4a2775bc86888e9fcf44e5df9098cfb6fddfa62fe703d3f6aee4e83916de", func := "broodhouse/broodlaw5.RunTells", spec := "runTells", inPlace := ["slices.overlaps[broodhouse/api.Row]", "slices.overlaps[broodhouse/api.Table]"], unfollowed := true, recurses := true, apart := false, narrowed := true }
def RunTellsUptoSaid : Prop := runTellsUptoRow.holds Tryz.pinned (OpenSpec.upto runTellsSpec)

/-- 'broodlaw6.BatchSame', WHERE WHAT IT READS IS OF BULK AT MOST 1048576: true; the input reads as it did. -/
def batchSameUptoRow : OpenClaim := { program := "ytnbleebilmghcabgreat", sum := "694e4a2775bc86888e9fcf44e5df9098cfb6fddfa62fe703d3f6aee4e83916de", func := "broodhouse/broodlaw6.BatchSame", spec := "batchSame", inPlace := ["slices.overlaps[broodhouse/api.Table]", "slices.overlaps[broodhouse/api.Row]"], unfollowed := true, recurses := true, apart := false, narrowed := true }
def BatchSameUptoSaid : Prop := batchSameUptoRow.holds Tryz.pinned (OpenSpec.upto batchSameSpec)

/-- 'broodlaw7.HouseTells', WHERE WHAT IT READS IS OF BULK AT MOST 1048576: true; the input reads as it did. -/
def houseTellsUptoRow : OpenClaim := { program := "ytnbleebilmghcabgreat", sum := "694e4a2775bc86888e9fcf44e5df9098cfb6fddfa62fe703d3f6aee4e83916de", func := "broodhouse/broodlaw7.HouseTells", spec := "houseTells", inPlace := ["slices.overlaps[broodhouse/api.Row]", "slices.overlaps[broodhouse/api.Table]"], unfollowed := true, recurses := true, apart := false, narrowed := true }
def HouseTellsUptoSaid : Prop := houseTellsUptoRow.holds Tryz.pinned (OpenSpec.upto houseTellsSpec)

/-- 'broodlaw7.HouseRight', WHERE WHAT IT READS IS OF BULK AT MOST 1048576: true; the input reads as it did. -/
def houseRightUptoRow : OpenClaim := { program := "ytnbleebilmghcabgreat", sum := "694e4a2775bc86888e9fcf44e5df9098cfb6fddfa62fe703d3f6aee4e83916de", func := "broodhouse/broodlaw7.HouseRight", spec := "houseRight", inPlace := ["slices.overlaps[broodhouse/api.Row]", "slices.overlaps[broodhouse/api.Table]"], unfollowed := true, recurses := true, apart := false, narrowed := true }
def HouseRightUptoSaid : Prop := houseRightUptoRow.holds Tryz.pinned (OpenSpec.upto houseRightSpec)

end Rows
end Go.Proofs.YtnbleebilmghcabGreat
