/-
  No cell of these rows narrows 'for every input' (looked for: loops, veiled, ifaces, maps, wideKeys, modest, calm, conditions, laid).
  DERIVED. THE GIVEN ROWS OF THIS SEAT. 10 by the template 'for every input the law returns true; each argument reads behind the call as it read before'; 0 by the template 'total and deterministic' (their statements: YtogghcbijdljkaaTotals.lean).
  GIVEN WITH THE SEED: the statements are not yours to turn. If you find one false, say at which input.
  Laid BY PROGRAM, IN A SANDBOX (cutbox-rows.mjs): the forced cells as the released guide's own fill.sh prints them over the translation 5958d85399fde740… (all of the seat's roots in one cut). By AI agents, Wed Nov 11 2026. No macro, syntax, notation, axiom, sorry.
-/
import Derived.Test.YtogghcbijdljkaaChecked
import GoSem.Claim
import GoSem.ClaimJoined
import GoSem.ClaimMapViews
import Derived.JoinedTies
import Derived.KernelRfl
namespace Go.Proofs.Ytogghcbijdljkaa
/- THE CELL 'sum', in the pinned program and in every row, IS THE sha256 OF THE DUMP (.gsa) THAT YtogghcbijdljkaaProg.lean LOADS. Nothing in Lean hashes anything: it is a label: what it is worth is what the hold of that sum in a sandbox is worth. -/
noncomputable def Try.pinned : Pinned := { name := "ytogghcbijdljkaa", sum := "5958d85399fde740d264d5e82a019457367b646ad8a60064b9d4439d30766b68", checked := Try.checked }
namespace Rows
def none {H : Type} : Left H := { results := [], args := [] }

/-- 'kissgatelaw09.WheelPops': WHATEVER THE INPUT: true; the input reads as it did. -/
def wheelPopsSpec : ChangeSpec := { name := "wheelPops", fn := fun _ => fun
  | [d1, d2] => { results := [.lit (.bool true)], args := [d1, d2] }
  | _ => none }
def wheelPopsRow : OpenClaim := { program := "ytogghcbijdljkaa", sum := "5958d85399fde740d264d5e82a019457367b646ad8a60064b9d4439d30766b68", func := "kissgate/kissgatelaw09.WheelPops", spec := "wheelPops", inPlace := ["slices.overlaps[kissgate/wheel.Timer]"], unfollowed := true, recurses := true, apart := false }
def WheelPopsSaid : Prop := wheelPopsRow.holds Try.pinned (OpenSpec.ofChange wheelPopsSpec)

/-- ITS FALSE NEIGHBOUR: 'it returns false'. Refute it at one input. -/
def wheelPopsWrong : ChangeSpec := { name := "wheelPops", fn := fun _ => fun
  | [d1, d2] => { results := [.lit (.bool false)], args := [d1, d2] }
  | _ => none }
def WheelPopsWrongFalsely : Prop := wheelPopsRow.holds Try.pinned (OpenSpec.ofChange wheelPopsWrong)

/-- 'kissgatelaw09.WheelDraws': WHATEVER THE INPUT: true; the input reads as it did. -/
def wheelDrawsSpec : ChangeSpec := { name := "wheelDraws", fn := fun _ => fun
  | [d1, d2, d3] => { results := [.lit (.bool true)], args := [d1, d2, d3] }
  | _ => none }
def wheelDrawsRow : OpenClaim := { program := "ytogghcbijdljkaa", sum := "5958d85399fde740d264d5e82a019457367b646ad8a60064b9d4439d30766b68", func := "kissgate/kissgatelaw09.WheelDraws", spec := "wheelDraws", inPlace := ["slices.overlaps[kissgate/wheel.Timer]"], unfollowed := true, recurses := true, apart := false }
def WheelDrawsSaid : Prop := wheelDrawsRow.holds Try.pinned (OpenSpec.ofChange wheelDrawsSpec)

/-- ITS FALSE NEIGHBOUR: 'it returns false'. Refute it at one input. -/
def wheelDrawsWrong : ChangeSpec := { name := "wheelDraws", fn := fun _ => fun
  | [d1, d2, d3] => { results := [.lit (.bool false)], args := [d1, d2, d3] }
  | _ => none }
def WheelDrawsWrongFalsely : Prop := wheelDrawsRow.holds Try.pinned (OpenSpec.ofChange wheelDrawsWrong)

/-- 'kissgatelaw09.WheelOne': WHATEVER THE INPUT: true; the input reads as it did. -/
def wheelOneSpec : ChangeSpec := { name := "wheelOne", fn := fun _ => fun
  | [d1, d2, d3, d4] => { results := [.lit (.bool true)], args := [d1, d2, d3, d4] }
  | _ => none }
def wheelOneRow : OpenClaim := { program := "ytogghcbijdljkaa", sum := "5958d85399fde740d264d5e82a019457367b646ad8a60064b9d4439d30766b68", func := "kissgate/kissgatelaw09.WheelOne", spec := "wheelOne", inPlace := ["slices.overlaps[kissgate/wheel.Timer]"], unfollowed := true, recurses := true, apart := false }
def WheelOneSaid : Prop := wheelOneRow.holds Try.pinned (OpenSpec.ofChange wheelOneSpec)

/-- ITS FALSE NEIGHBOUR: 'it returns false'. Refute it at one input. -/
def wheelOneWrong : ChangeSpec := { name := "wheelOne", fn := fun _ => fun
  | [d1, d2, d3, d4] => { results := [.lit (.bool false)], args := [d1, d2, d3, d4] }
  | _ => none }
def WheelOneWrongFalsely : Prop := wheelOneRow.holds Try.pinned (OpenSpec.ofChange wheelOneWrong)

/-- 'kissgatelaw10.PrioOrder': WHATEVER THE INPUT: true; the input reads as it did. -/
def prioOrderSpec : ChangeSpec := { name := "prioOrder", fn := fun _ => fun
  | [d1, d2, d3] => { results := [.lit (.bool true)], args := [d1, d2, d3] }
  | _ => none }
def prioOrderRow : OpenClaim := { program := "ytogghcbijdljkaa", sum := "5958d85399fde740d264d5e82a019457367b646ad8a60064b9d4439d30766b68", func := "kissgate/kissgatelaw10.PrioOrder", spec := "prioOrder", apart := false }
def PrioOrderSaid : Prop := prioOrderRow.holds Try.pinned (OpenSpec.ofChange prioOrderSpec)

/-- ITS FALSE NEIGHBOUR: 'it returns false'. Refute it at one input. -/
def prioOrderWrong : ChangeSpec := { name := "prioOrder", fn := fun _ => fun
  | [d1, d2, d3] => { results := [.lit (.bool false)], args := [d1, d2, d3] }
  | _ => none }
def PrioOrderWrongFalsely : Prop := prioOrderRow.holds Try.pinned (OpenSpec.ofChange prioOrderWrong)

/-- 'kissgatelaw10.PrioWays': WHATEVER THE INPUT: true; the input reads as it did. -/
def prioWaysSpec : ChangeSpec := { name := "prioWays", fn := fun _ => fun
  | [d1, d2, d3, d4] => { results := [.lit (.bool true)], args := [d1, d2, d3, d4] }
  | _ => none }
def prioWaysRow : OpenClaim := { program := "ytogghcbijdljkaa", sum := "5958d85399fde740d264d5e82a019457367b646ad8a60064b9d4439d30766b68", func := "kissgate/kissgatelaw10.PrioWays", spec := "prioWays", apart := false }
def PrioWaysSaid : Prop := prioWaysRow.holds Try.pinned (OpenSpec.ofChange prioWaysSpec)

/-- ITS FALSE NEIGHBOUR: 'it returns false'. Refute it at one input. -/
def prioWaysWrong : ChangeSpec := { name := "prioWays", fn := fun _ => fun
  | [d1, d2, d3, d4] => { results := [.lit (.bool false)], args := [d1, d2, d3, d4] }
  | _ => none }
def PrioWaysWrongFalsely : Prop := prioWaysRow.holds Try.pinned (OpenSpec.ofChange prioWaysWrong)

/-- 'kissgatelaw10.PrioBest': WHATEVER THE INPUT: true; the input reads as it did. -/
def prioBestSpec : ChangeSpec := { name := "prioBest", fn := fun _ => fun
  | [d1, d2] => { results := [.lit (.bool true)], args := [d1, d2] }
  | _ => none }
def prioBestRow : OpenClaim := { program := "ytogghcbijdljkaa", sum := "5958d85399fde740d264d5e82a019457367b646ad8a60064b9d4439d30766b68", func := "kissgate/kissgatelaw10.PrioBest", spec := "prioBest", apart := false }
def PrioBestSaid : Prop := prioBestRow.holds Try.pinned (OpenSpec.ofChange prioBestSpec)

/-- ITS FALSE NEIGHBOUR: 'it returns false'. Refute it at one input. -/
def prioBestWrong : ChangeSpec := { name := "prioBest", fn := fun _ => fun
  | [d1, d2] => { results := [.lit (.bool false)], args := [d1, d2] }
  | _ => none }
def PrioBestWrongFalsely : Prop := prioBestRow.holds Try.pinned (OpenSpec.ofChange prioBestWrong)

/-- 'kissgatelaw10.PrioRoles': WHATEVER THE INPUT: true; the input reads as it did. -/
def prioRolesSpec : ChangeSpec := { name := "prioRoles", fn := fun _ => fun
  | [d1, d2] => { results := [.lit (.bool true)], args := [d1, d2] }
  | _ => none }
def prioRolesRow : OpenClaim := { program := "ytogghcbijdljkaa", sum := "5958d85399fde740d264d5e82a019457367b646ad8a60064b9d4439d30766b68", func := "kissgate/kissgatelaw10.PrioRoles", spec := "prioRoles", apart := false }
def PrioRolesSaid : Prop := prioRolesRow.holds Try.pinned (OpenSpec.ofChange prioRolesSpec)

/-- ITS FALSE NEIGHBOUR: 'it returns false'. Refute it at one input. -/
def prioRolesWrong : ChangeSpec := { name := "prioRoles", fn := fun _ => fun
  | [d1, d2] => { results := [.lit (.bool false)], args := [d1, d2] }
  | _ => none }
def PrioRolesWrongFalsely : Prop := prioRolesRow.holds Try.pinned (OpenSpec.ofChange prioRolesWrong)

/-- 'kissgatelaw10.PrioSorted': WHATEVER THE INPUT: true; the input reads as it did. -/
def prioSortedSpec : ChangeSpec := { name := "prioSorted", fn := fun _ => fun
  | [d1, d2] => { results := [.lit (.bool true)], args := [d1, d2] }
  | _ => none }
def prioSortedRow : OpenClaim := { program := "ytogghcbijdljkaa", sum := "5958d85399fde740d264d5e82a019457367b646ad8a60064b9d4439d30766b68", func := "kissgate/kissgatelaw10.PrioSorted", spec := "prioSorted", unfollowed := true, recurses := true, apart := false }
def PrioSortedSaid : Prop := prioSortedRow.holds Try.pinned (OpenSpec.ofChange prioSortedSpec)

/-- ITS FALSE NEIGHBOUR: 'it returns false'. Refute it at one input. -/
def prioSortedWrong : ChangeSpec := { name := "prioSorted", fn := fun _ => fun
  | [d1, d2] => { results := [.lit (.bool false)], args := [d1, d2] }
  | _ => none }
def PrioSortedWrongFalsely : Prop := prioSortedRow.holds Try.pinned (OpenSpec.ofChange prioSortedWrong)

/-- 'kissgatelaw10.PrioAlone': WHATEVER THE INPUT: true; the input reads as it did. -/
def prioAloneSpec : ChangeSpec := { name := "prioAlone", fn := fun _ => fun
  | [d1, d2] => { results := [.lit (.bool true)], args := [d1, d2] }
  | _ => none }
def prioAloneRow : OpenClaim := { program := "ytogghcbijdljkaa", sum := "5958d85399fde740d264d5e82a019457367b646ad8a60064b9d4439d30766b68", func := "kissgate/kissgatelaw10.PrioAlone", spec := "prioAlone", apart := false }
def PrioAloneSaid : Prop := prioAloneRow.holds Try.pinned (OpenSpec.ofChange prioAloneSpec)

/-- ITS FALSE NEIGHBOUR: 'it returns false'. Refute it at one input. -/
def prioAloneWrong : ChangeSpec := { name := "prioAlone", fn := fun _ => fun
  | [d1, d2] => { results := [.lit (.bool false)], args := [d1, d2] }
  | _ => none }
def PrioAloneWrongFalsely : Prop := prioAloneRow.holds Try.pinned (OpenSpec.ofChange prioAloneWrong)

/-- 'kissgatelaw10.PrioWorse': WHATEVER THE INPUT: true; the input reads as it did. -/
def prioWorseSpec : ChangeSpec := { name := "prioWorse", fn := fun _ => fun
  | [d1, d2, d3, d4] => { results := [.lit (.bool true)], args := [d1, d2, d3, d4] }
  | _ => none }
def prioWorseRow : OpenClaim := { program := "ytogghcbijdljkaa", sum := "5958d85399fde740d264d5e82a019457367b646ad8a60064b9d4439d30766b68", func := "kissgate/kissgatelaw10.PrioWorse", spec := "prioWorse", apart := false }
def PrioWorseSaid : Prop := prioWorseRow.holds Try.pinned (OpenSpec.ofChange prioWorseSpec)

/-- ITS FALSE NEIGHBOUR: 'it returns false'. Refute it at one input. -/
def prioWorseWrong : ChangeSpec := { name := "prioWorse", fn := fun _ => fun
  | [d1, d2, d3, d4] => { results := [.lit (.bool false)], args := [d1, d2, d3, d4] }
  | _ => none }
def PrioWorseWrongFalsely : Prop := prioWorseRow.holds Try.pinned (OpenSpec.ofChange prioWorseWrong)

/- THE SECOND FORM. 'bulk': how many values and letters a reading holds, each counted each time it is reached (what is shared counts as often as it is met; a slice's spare places count too). A statement '..UptoSaid' is the law's where the arguments, and the package variables that the reading takes, are together of bulk at most 1048576: NARROWER than '..Said'. Prove '..Said' where nothing that the law and all that it calls make is longer than what came in: it says more and counts as full. Else prove '..UptoSaid'. A law counts once. -/
mutual
def uptoBulk {H : Type} : DataW H → Nat
  | .lit (.string bytes) => bytes.length + 1
  | .lit _ => 1
  | .nil => 1
  | .ptr d => uptoBulk d + 1
  | .slice elems spare => uptoBulkAll elems + uptoBulkAll spare + 1
  | .agg parts => uptoBulkAll parts + 1
  | .iface _ d => uptoBulk d + 1
  | .map entries => uptoBulkEntries entries + 1
  | .held _ => 1
def uptoBulkAll {H : Type} : List (DataW H) → Nat
  | [] => 0
  | d :: r => uptoBulk d + uptoBulkAll r
def uptoBulkEntries {H : Type} : List (Lit × DataW H) → Nat
  | [] => 0
  | x :: r => uptoBulkEntry x + uptoBulkEntries r
def uptoBulkEntry {H : Type} : Lit × DataW H → Nat
  | (.string bytes, d) => bytes.length + uptoBulk d + 1
  | (_, d) => uptoBulk d + 1
 end
def uptoSmall : (H : Type) → List (DataW H) → Bool := fun _ ds => decide (uptoBulkAll ds ≤ 1048576)
def OpenSpec.upto (s : _root_.Go.ChangeSpec) : _root_.Go.OpenSpec := { _root_.Go.OpenSpec.ofChange s with cond := some uptoSmall }

/-- 'kissgatelaw09.WheelPops', WHERE WHAT IT READS IS OF BULK AT MOST 1048576: true; the input reads as it did. -/
def wheelPopsUptoRow : OpenClaim := { program := "ytogghcbijdljkaa", sum := "5958d85399fde740d264d5e82a019457367b646ad8a60064b9d4439d30766b68", func := "kissgate/kissgatelaw09.WheelPops", spec := "wheelPops", inPlace := ["slices.overlaps[kissgate/wheel.Timer]"], unfollowed := true, recurses := true, apart := false, narrowed := true }
def WheelPopsUptoSaid : Prop := wheelPopsUptoRow.holds Try.pinned (OpenSpec.upto wheelPopsSpec)

/-- 'kissgatelaw09.WheelDraws', WHERE WHAT IT READS IS OF BULK AT MOST 1048576: true; the input reads as it did. -/
def wheelDrawsUptoRow : OpenClaim := { program := "ytogghcbijdljkaa", sum := "5958d85399fde740d264d5e82a019457367b646ad8a60064b9d4439d30766b68", func := "kissgate/kissgatelaw09.WheelDraws", spec := "wheelDraws", inPlace := ["slices.overlaps[kissgate/wheel.Timer]"], unfollowed := true, recurses := true, apart := false, narrowed := true }
def WheelDrawsUptoSaid : Prop := wheelDrawsUptoRow.holds Try.pinned (OpenSpec.upto wheelDrawsSpec)

/-- 'kissgatelaw09.WheelOne', WHERE WHAT IT READS IS OF BULK AT MOST 1048576: true; the input reads as it did. -/
def wheelOneUptoRow : OpenClaim := { program := "ytogghcbijdljkaa", sum := "5958d85399fde740d264d5e82a019457367b646ad8a60064b9d4439d30766b68", func := "kissgate/kissgatelaw09.WheelOne", spec := "wheelOne", inPlace := ["slices.overlaps[kissgate/wheel.Timer]"], unfollowed := true, recurses := true, apart := false, narrowed := true }
def WheelOneUptoSaid : Prop := wheelOneUptoRow.holds Try.pinned (OpenSpec.upto wheelOneSpec)

/-- 'kissgatelaw10.PrioOrder', WHERE WHAT IT READS IS OF BULK AT MOST 1048576: true; the input reads as it did. -/
def prioOrderUptoRow : OpenClaim := { program := "ytogghcbijdljkaa", sum := "5958d85399fde740d264d5e82a019457367b646ad8a60064b9d4439d30766b68", func := "kissgate/kissgatelaw10.PrioOrder", spec := "prioOrder", apart := false, narrowed := true }
def PrioOrderUptoSaid : Prop := prioOrderUptoRow.holds Try.pinned (OpenSpec.upto prioOrderSpec)

/-- 'kissgatelaw10.PrioWays', WHERE WHAT IT READS IS OF BULK AT MOST 1048576: true; the input reads as it did. -/
def prioWaysUptoRow : OpenClaim := { program := "ytogghcbijdljkaa", sum := "5958d85399fde740d264d5e82a019457367b646ad8a60064b9d4439d30766b68", func := "kissgate/kissgatelaw10.PrioWays", spec := "prioWays", apart := false, narrowed := true }
def PrioWaysUptoSaid : Prop := prioWaysUptoRow.holds Try.pinned (OpenSpec.upto prioWaysSpec)

/-- 'kissgatelaw10.PrioBest', WHERE WHAT IT READS IS OF BULK AT MOST 1048576: true; the input reads as it did. -/
def prioBestUptoRow : OpenClaim := { program := "ytogghcbijdljkaa", sum := "5958d85399fde740d264d5e82a019457367b646ad8a60064b9d4439d30766b68", func := "kissgate/kissgatelaw10.PrioBest", spec := "prioBest", apart := false, narrowed := true }
def PrioBestUptoSaid : Prop := prioBestUptoRow.holds Try.pinned (OpenSpec.upto prioBestSpec)

/-- 'kissgatelaw10.PrioRoles', WHERE WHAT IT READS IS OF BULK AT MOST 1048576: true; the input reads as it did. -/
def prioRolesUptoRow : OpenClaim := { program := "ytogghcbijdljkaa", sum := "5958d85399fde740d264d5e82a019457367b646ad8a60064b9d4439d30766b68", func := "kissgate/kissgatelaw10.PrioRoles", spec := "prioRoles", apart := false, narrowed := true }
def PrioRolesUptoSaid : Prop := prioRolesUptoRow.holds Try.pinned (OpenSpec.upto prioRolesSpec)

/-- 'kissgatelaw10.PrioSorted', WHERE WHAT IT READS IS OF BULK AT MOST 1048576: true; the input reads as it did. -/
def prioSortedUptoRow : OpenClaim := { program := "ytogghcbijdljkaa", sum := "5958d85399fde740d264d5e82a019457367b646ad8a60064b9d4439d30766b68", func := "kissgate/kissgatelaw10.PrioSorted", spec := "prioSorted", unfollowed := true, recurses := true, apart := false, narrowed := true }
def PrioSortedUptoSaid : Prop := prioSortedUptoRow.holds Try.pinned (OpenSpec.upto prioSortedSpec)

/-- 'kissgatelaw10.PrioAlone', WHERE WHAT IT READS IS OF BULK AT MOST 1048576: true; the input reads as it did. -/
def prioAloneUptoRow : OpenClaim := { program := "ytogghcbijdljkaa", sum := "5958d85399fde740d264d5e82a019457367b646ad8a60064b9d4439d30766b68", func := "kissgate/kissgatelaw10.PrioAlone", spec := "prioAlone", apart := false, narrowed := true }
def PrioAloneUptoSaid : Prop := prioAloneUptoRow.holds Try.pinned (OpenSpec.upto prioAloneSpec)

/-- 'kissgatelaw10.PrioWorse', WHERE WHAT IT READS IS OF BULK AT MOST 1048576: true; the input reads as it did. -/
def prioWorseUptoRow : OpenClaim := { program := "ytogghcbijdljkaa", sum := "5958d85399fde740d264d5e82a019457367b646ad8a60064b9d4439d30766b68", func := "kissgate/kissgatelaw10.PrioWorse", spec := "prioWorse", apart := false, narrowed := true }
def PrioWorseUptoSaid : Prop := prioWorseUptoRow.holds Try.pinned (OpenSpec.upto prioWorseSpec)

end Rows
end Go.Proofs.Ytogghcbijdljkaa
