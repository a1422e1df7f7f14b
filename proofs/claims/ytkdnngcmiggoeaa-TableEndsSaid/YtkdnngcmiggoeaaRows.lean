/-
  No cell of these rows narrows 'for every input' (looked for: loops, veiled, ifaces, maps, wideKeys, modest, calm, conditions, laid).
  DERIVED. THE GIVEN ROWS OF THIS SEAT. 7 by the template 'for every input the law returns true; each argument reads behind the call as it read before'; 0 by the template 'total and deterministic' (their statements: YtkdnngcmiggoeaaTotals.lean).
  GIVEN WITH THE SEED: the statements are not yours to turn. If you find one false, say at which input.
  Laid BY PROGRAM, IN A SANDBOX (cutbox-rows.mjs): the forced cells as the released guide's own fill.sh prints them over the translation 6201535a4428ddc0… (all of the seat's roots in one cut). By AI agents, Wed Nov 11 2026. No macro, syntax, notation, axiom, sorry.
-/
import Derived.Test.YtkdnngcmiggoeaaChecked
import GoSem.Claim
import GoSem.ClaimJoined
import GoSem.ClaimMapViews
import Derived.JoinedTies
import Derived.KernelRfl
namespace Go.Proofs.Ytkdnngcmiggoeaa
/- THE CELL 'sum', in the pinned program and in every row, IS THE sha256 OF THE DUMP (.gsa) THAT YtkdnngcmiggoeaaProg.lean LOADS. Nothing in Lean hashes anything: it is a label: what it is worth is what the hold of that sum in a sandbox is worth. -/
noncomputable def Try.pinned : Pinned := { name := "ytkdnngcmiggoeaa", sum := "6201535a4428ddc013857ddb43f1fb814e75aefd3a189ba0d99bef43d0dd03af", checked := Try.checked }
namespace Rows
def none {H : Type} : Left H := { results := [], args := [] }

/-- 'kissgatelaw12.TreeStands': WHATEVER THE INPUT: true; the input reads as it did. -/
def treeStandsSpec : ChangeSpec := { name := "treeStands", fn := fun _ => fun
  | [d1, d2, d3, d4] => { results := [.lit (.bool true)], args := [d1, d2, d3, d4] }
  | _ => none }
def treeStandsRow : OpenClaim := { program := "ytkdnngcmiggoeaa", sum := "6201535a4428ddc013857ddb43f1fb814e75aefd3a189ba0d99bef43d0dd03af", func := "kissgate/kissgatelaw12.TreeStands", spec := "treeStands", apart := false }
def TreeStandsSaid : Prop := treeStandsRow.holds Try.pinned (OpenSpec.ofChange treeStandsSpec)

/-- ITS FALSE NEIGHBOUR: 'it returns false'. Refute it at one input. -/
def treeStandsWrong : ChangeSpec := { name := "treeStands", fn := fun _ => fun
  | [d1, d2, d3, d4] => { results := [.lit (.bool false)], args := [d1, d2, d3, d4] }
  | _ => none }
def TreeStandsWrongFalsely : Prop := treeStandsRow.holds Try.pinned (OpenSpec.ofChange treeStandsWrong)

/-- 'kissgatelaw13.TableIs': WHATEVER THE INPUT: true; the input reads as it did. -/
def tableIsSpec : ChangeSpec := { name := "tableIs", fn := fun _ => fun
  | [d1, d2, d3] => { results := [.lit (.bool true)], args := [d1, d2, d3] }
  | _ => none }
def tableIsRow : OpenClaim := { program := "ytkdnngcmiggoeaa", sum := "6201535a4428ddc013857ddb43f1fb814e75aefd3a189ba0d99bef43d0dd03af", func := "kissgate/kissgatelaw13.TableIs", spec := "tableIs", unfollowed := true, recurses := true, apart := false }
def TableIsSaid : Prop := tableIsRow.holds Try.pinned (OpenSpec.ofChange tableIsSpec)

/-- ITS FALSE NEIGHBOUR: 'it returns false'. Refute it at one input. -/
def tableIsWrong : ChangeSpec := { name := "tableIs", fn := fun _ => fun
  | [d1, d2, d3] => { results := [.lit (.bool false)], args := [d1, d2, d3] }
  | _ => none }
def TableIsWrongFalsely : Prop := tableIsRow.holds Try.pinned (OpenSpec.ofChange tableIsWrong)

/-- 'kissgatelaw13.TableGood': WHATEVER THE INPUT: true; the input reads as it did. -/
def tableGoodSpec : ChangeSpec := { name := "tableGood", fn := fun _ => fun
  | [d1, d2, d3] => { results := [.lit (.bool true)], args := [d1, d2, d3] }
  | _ => none }
def tableGoodRow : OpenClaim := { program := "ytkdnngcmiggoeaa", sum := "6201535a4428ddc013857ddb43f1fb814e75aefd3a189ba0d99bef43d0dd03af", func := "kissgate/kissgatelaw13.TableGood", spec := "tableGood", unfollowed := true, recurses := true, apart := false }
def TableGoodSaid : Prop := tableGoodRow.holds Try.pinned (OpenSpec.ofChange tableGoodSpec)

/-- ITS FALSE NEIGHBOUR: 'it returns false'. Refute it at one input. -/
def tableGoodWrong : ChangeSpec := { name := "tableGood", fn := fun _ => fun
  | [d1, d2, d3] => { results := [.lit (.bool false)], args := [d1, d2, d3] }
  | _ => none }
def TableGoodWrongFalsely : Prop := tableGoodRow.holds Try.pinned (OpenSpec.ofChange tableGoodWrong)

/-- 'kissgatelaw13.TableRuns': WHATEVER THE INPUT: true; the input reads as it did. -/
def tableRunsSpec : ChangeSpec := { name := "tableRuns", fn := fun _ => fun
  | [d1, d2, d3, d4] => { results := [.lit (.bool true)], args := [d1, d2, d3, d4] }
  | _ => none }
def tableRunsRow : OpenClaim := { program := "ytkdnngcmiggoeaa", sum := "6201535a4428ddc013857ddb43f1fb814e75aefd3a189ba0d99bef43d0dd03af", func := "kissgate/kissgatelaw13.TableRuns", spec := "tableRuns", apart := false }
def TableRunsSaid : Prop := tableRunsRow.holds Try.pinned (OpenSpec.ofChange tableRunsSpec)

/-- ITS FALSE NEIGHBOUR: 'it returns false'. Refute it at one input. -/
def tableRunsWrong : ChangeSpec := { name := "tableRuns", fn := fun _ => fun
  | [d1, d2, d3, d4] => { results := [.lit (.bool false)], args := [d1, d2, d3, d4] }
  | _ => none }
def TableRunsWrongFalsely : Prop := tableRunsRow.holds Try.pinned (OpenSpec.ofChange tableRunsWrong)

/-- 'kissgatelaw13.TableReach': WHATEVER THE INPUT: true; the input reads as it did. -/
def tableReachSpec : ChangeSpec := { name := "tableReach", fn := fun _ => fun
  | [d1, d2] => { results := [.lit (.bool true)], args := [d1, d2] }
  | _ => none }
def tableReachRow : OpenClaim := { program := "ytkdnngcmiggoeaa", sum := "6201535a4428ddc013857ddb43f1fb814e75aefd3a189ba0d99bef43d0dd03af", func := "kissgate/kissgatelaw13.TableReach", spec := "tableReach", recurses := true, apart := false }
def TableReachSaid : Prop := tableReachRow.holds Try.pinned (OpenSpec.ofChange tableReachSpec)

/-- ITS FALSE NEIGHBOUR: 'it returns false'. Refute it at one input. -/
def tableReachWrong : ChangeSpec := { name := "tableReach", fn := fun _ => fun
  | [d1, d2] => { results := [.lit (.bool false)], args := [d1, d2] }
  | _ => none }
def TableReachWrongFalsely : Prop := tableReachRow.holds Try.pinned (OpenSpec.ofChange tableReachWrong)

/-- 'kissgatelaw13.TableEnds': WHATEVER THE INPUT: true; the input reads as it did. -/
def tableEndsSpec : ChangeSpec := { name := "tableEnds", fn := fun _ => fun
  | [d] => { results := [.lit (.bool true)], args := [d] }
  | _ => none }
def tableEndsRow : OpenClaim := { program := "ytkdnngcmiggoeaa", sum := "6201535a4428ddc013857ddb43f1fb814e75aefd3a189ba0d99bef43d0dd03af", func := "kissgate/kissgatelaw13.TableEnds", spec := "tableEnds", apart := false }
def TableEndsSaid : Prop := tableEndsRow.holds Try.pinned (OpenSpec.ofChange tableEndsSpec)

/-- ITS FALSE NEIGHBOUR: 'it returns false'. Refute it at one input. -/
def tableEndsWrong : ChangeSpec := { name := "tableEnds", fn := fun _ => fun
  | [d] => { results := [.lit (.bool false)], args := [d] }
  | _ => none }
def TableEndsWrongFalsely : Prop := tableEndsRow.holds Try.pinned (OpenSpec.ofChange tableEndsWrong)

/-- 'kissgatelaw13.TableLeaves': WHATEVER THE INPUT: true; the input reads as it did. -/
def tableLeavesSpec : ChangeSpec := { name := "tableLeaves", fn := fun _ => fun
  | [d] => { results := [.lit (.bool true)], args := [d] }
  | _ => none }
def tableLeavesRow : OpenClaim := { program := "ytkdnngcmiggoeaa", sum := "6201535a4428ddc013857ddb43f1fb814e75aefd3a189ba0d99bef43d0dd03af", func := "kissgate/kissgatelaw13.TableLeaves", spec := "tableLeaves", apart := false }
def TableLeavesSaid : Prop := tableLeavesRow.holds Try.pinned (OpenSpec.ofChange tableLeavesSpec)

/-- ITS FALSE NEIGHBOUR: 'it returns false'. Refute it at one input. -/
def tableLeavesWrong : ChangeSpec := { name := "tableLeaves", fn := fun _ => fun
  | [d] => { results := [.lit (.bool false)], args := [d] }
  | _ => none }
def TableLeavesWrongFalsely : Prop := tableLeavesRow.holds Try.pinned (OpenSpec.ofChange tableLeavesWrong)

/- THE SECOND FORM. 'bulk': how many values and letters a reading holds, each counted each time it is reached (what is shared counts as often as it is met; a slice's spare places count too). A statement '..UptoSaid' is the law's where the arguments, and the package variables that the reading takes, are together of bulk at most 1048576: NARROWER than '..Said'. Prove '..Said' where nothing that the law and all that it calls make is longer than what came in: it says more and counts as full. Else prove '..UptoSaid'. A law counts once. -/
mutual
def uptoBulk {H : Type} : DataW H → Nat
  | .lit (.string bytes) => bytes.length + 1
  | .lit _ => 1
  | .nil => 1
  | .ptr d => uptoBulk d + 1
  | .slice elems spare => uptoBulkAll elems + uptoBulkAll spare + 1
  | .agg parts => uptoBulkAll parts + 1
  | .iface _ d => uptoBulk d + 1
  | .map entries => uptoBulkEntries entries + 1
  | .held _ => 1
def uptoBulkAll {H : Type} : List (DataW H) → Nat
  | [] => 0
  | d :: r => uptoBulk d + uptoBulkAll r
def uptoBulkEntries {H : Type} : List (Lit × DataW H) → Nat
  | [] => 0
  | x :: r => uptoBulkEntry x + uptoBulkEntries r
def uptoBulkEntry {H : Type} : Lit × DataW H → Nat
  | (.string bytes, d) => bytes.length + uptoBulk d + 1
  | (_, d) => uptoBulk d + 1
 end
def uptoSmall : (H : Type) → List (DataW H) → Bool := fun _ ds => decide (uptoBulkAll ds ≤ 1048576)
def OpenSpec.upto (s : _root_.Go.ChangeSpec) : _root_.Go.OpenSpec := { _root_.Go.OpenSpec.ofChange s with cond := some uptoSmall }

/-- 'kissgatelaw12.TreeStands', WHERE WHAT IT READS IS OF BULK AT MOST 1048576: true; the input reads as it did. -/
def treeStandsUptoRow : OpenClaim := { program := "ytkdnngcmiggoeaa", sum := "6201535a4428ddc013857ddb43f1fb814e75aefd3a189ba0d99bef43d0dd03af", func := "kissgate/kissgatelaw12.TreeStands", spec := "treeStands", apart := false, narrowed := true }
def TreeStandsUptoSaid : Prop := treeStandsUptoRow.holds Try.pinned (OpenSpec.upto treeStandsSpec)

/-- 'kissgatelaw13.TableIs', WHERE WHAT IT READS IS OF BULK AT MOST 1048576: true; the input reads as it did. -/
def tableIsUptoRow : OpenClaim := { program := "ytkdnngcmiggoeaa", sum := "6201535a4428ddc013857ddb43f1fb814e75aefd3a189ba0d99bef43d0dd03af", func := "kissgate/kissgatelaw13.TableIs", spec := "tableIs", unfollowed := true, recurses := true, apart := false, narrowed := true }
def TableIsUptoSaid : Prop := tableIsUptoRow.holds Try.pinned (OpenSpec.upto tableIsSpec)

/-- 'kissgatelaw13.TableGood', WHERE WHAT IT READS IS OF BULK AT MOST 1048576: true; the input reads as it did. -/
def tableGoodUptoRow : OpenClaim := { program := "ytkdnngcmiggoeaa", sum := "6201535a4428ddc013857ddb43f1fb814e75aefd3a189ba0d99bef43d0dd03af", func := "kissgate/kissgatelaw13.TableGood", spec := "tableGood", unfollowed := true, recurses := true, apart := false, narrowed := true }
def TableGoodUptoSaid : Prop := tableGoodUptoRow.holds Try.pinned (OpenSpec.upto tableGoodSpec)

/-- 'kissgatelaw13.TableRuns', WHERE WHAT IT READS IS OF BULK AT MOST 1048576: true; the input reads as it did. -/
def tableRunsUptoRow : OpenClaim := { program := "ytkdnngcmiggoeaa", sum := "6201535a4428ddc013857ddb43f1fb814e75aefd3a189ba0d99bef43d0dd03af", func := "kissgate/kissgatelaw13.TableRuns", spec := "tableRuns", apart := false, narrowed := true }
def TableRunsUptoSaid : Prop := tableRunsUptoRow.holds Try.pinned (OpenSpec.upto tableRunsSpec)

/-- 'kissgatelaw13.TableReach', WHERE WHAT IT READS IS OF BULK AT MOST 1048576: true; the input reads as it did. -/
def tableReachUptoRow : OpenClaim := { program := "ytkdnngcmiggoeaa", sum := "6201535a4428ddc013857ddb43f1fb814e75aefd3a189ba0d99bef43d0dd03af", func := "kissgate/kissgatelaw13.TableReach", spec := "tableReach", recurses := true, apart := false, narrowed := true }
def TableReachUptoSaid : Prop := tableReachUptoRow.holds Try.pinned (OpenSpec.upto tableReachSpec)

/-- 'kissgatelaw13.TableEnds', WHERE WHAT IT READS IS OF BULK AT MOST 1048576: true; the input reads as it did. -/
def tableEndsUptoRow : OpenClaim := { program := "ytkdnngcmiggoeaa", sum := "6201535a4428ddc013857ddb43f1fb814e75aefd3a189ba0d99bef43d0dd03af", func := "kissgate/kissgatelaw13.TableEnds", spec := "tableEnds", apart := false, narrowed := true }
def TableEndsUptoSaid : Prop := tableEndsUptoRow.holds Try.pinned (OpenSpec.upto tableEndsSpec)

/-- 'kissgatelaw13.TableLeaves', WHERE WHAT IT READS IS OF BULK AT MOST 1048576: true; the input reads as it did. -/
def tableLeavesUptoRow : OpenClaim := { program := "ytkdnngcmiggoeaa", sum := "6201535a4428ddc013857ddb43f1fb814e75aefd3a189ba0d99bef43d0dd03af", func := "kissgate/kissgatelaw13.TableLeaves", spec := "tableLeaves", apart := false, narrowed := true }
def TableLeavesUptoSaid : Prop := tableLeavesUptoRow.holds Try.pinned (OpenSpec.upto tableLeavesSpec)

end Rows
end Go.Proofs.Ytkdnngcmiggoeaa
