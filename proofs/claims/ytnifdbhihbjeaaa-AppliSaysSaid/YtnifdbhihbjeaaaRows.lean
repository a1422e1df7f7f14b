/-
  No cell of these rows narrows 'for every input' (looked for: loops, veiled, ifaces, maps, wideKeys, modest, calm, conditions, laid).
  DERIVED. THE GIVEN ROWS OF THIS SEAT. 4 by the template 'for every input the law returns true; each argument reads behind the call as it read before'; 0 by the template 'total and deterministic' (their statements: YtnifdbhihbjeaaaTotals.lean).
  GIVEN WITH THE SEED: the statements are not yours to turn. If you find one false, say at which input.
  Laid BY PROGRAM, IN A SANDBOX (cutbox-rows.mjs): the forced cells as the released guide's own fill.sh prints them over the translation 1b22faa06c52700b… (all of the seat's roots in one cut). By AI agents, Wed Nov 11 2026. No macro, syntax, notation, axiom, sorry.
-/
import Derived.Test.YtnifdbhihbjeaaaChecked
import GoSem.Claim
import GoSem.ClaimJoined
import GoSem.ClaimMapViews
import Derived.JoinedTies
import Derived.KernelRfl
namespace Go.Proofs.Ytnifdbhihbjeaaa
/- THE CELL 'sum', in the pinned program and in every row, IS THE sha256 OF THE DUMP (.gsa) THAT YtnifdbhihbjeaaaProg.lean LOADS. Nothing in Lean hashes anything: it is a label: what it is worth is what the hold of that sum in a sandbox is worth. -/
noncomputable def Try.pinned : Pinned := { name := "ytnifdbhihbjeaaa", sum := "1b22faa06c52700bee618126dbd2406a8900f9dc6b5a90bef4506fd3b10503f6", checked := Try.checked }
namespace Rows
def none {H : Type} : Left H := { results := [], args := [] }

/-- 'kissgatelaw15.AppliDoes': WHATEVER THE INPUT: true; the input reads as it did. -/
def appliDoesSpec : ChangeSpec := { name := "appliDoes", fn := fun _ => fun
  | [d] => { results := [.lit (.bool true)], args := [d] }
  | _ => none }
def appliDoesRow : OpenClaim := { program := "ytnifdbhihbjeaaa", sum := "1b22faa06c52700bee618126dbd2406a8900f9dc6b5a90bef4506fd3b10503f6", func := "kissgate/kissgatelaw15.AppliDoes", spec := "appliDoes", apart := false }
def AppliDoesSaid : Prop := appliDoesRow.holds Try.pinned (OpenSpec.ofChange appliDoesSpec)

/-- ITS FALSE NEIGHBOUR: 'it returns false'. Refute it at one input. -/
def appliDoesWrong : ChangeSpec := { name := "appliDoes", fn := fun _ => fun
  | [d] => { results := [.lit (.bool false)], args := [d] }
  | _ => none }
def AppliDoesWrongFalsely : Prop := appliDoesRow.holds Try.pinned (OpenSpec.ofChange appliDoesWrong)

/-- 'kissgatelaw15.AppliSays': WHATEVER THE INPUT: true; the input reads as it did. -/
def appliSaysSpec : ChangeSpec := { name := "appliSays", fn := fun _ => fun
  | [d1, d2] => { results := [.lit (.bool true)], args := [d1, d2] }
  | _ => none }
def appliSaysRow : OpenClaim := { program := "ytnifdbhihbjeaaa", sum := "1b22faa06c52700bee618126dbd2406a8900f9dc6b5a90bef4506fd3b10503f6", func := "kissgate/kissgatelaw15.AppliSays", spec := "appliSays", apart := false }
def AppliSaysSaid : Prop := appliSaysRow.holds Try.pinned (OpenSpec.ofChange appliSaysSpec)

/-- ITS FALSE NEIGHBOUR: 'it returns false'. Refute it at one input. -/
def appliSaysWrong : ChangeSpec := { name := "appliSays", fn := fun _ => fun
  | [d1, d2] => { results := [.lit (.bool false)], args := [d1, d2] }
  | _ => none }
def AppliSaysWrongFalsely : Prop := appliSaysRow.holds Try.pinned (OpenSpec.ofChange appliSaysWrong)

/-- 'kissgatelaw15.AppliQuiet': WHATEVER THE INPUT: true; the input reads as it did. -/
def appliQuietSpec : ChangeSpec := { name := "appliQuiet", fn := fun _ => fun
  | [d] => { results := [.lit (.bool true)], args := [d] }
  | _ => none }
def appliQuietRow : OpenClaim := { program := "ytnifdbhihbjeaaa", sum := "1b22faa06c52700bee618126dbd2406a8900f9dc6b5a90bef4506fd3b10503f6", func := "kissgate/kissgatelaw15.AppliQuiet", spec := "appliQuiet", apart := false }
def AppliQuietSaid : Prop := appliQuietRow.holds Try.pinned (OpenSpec.ofChange appliQuietSpec)

/-- ITS FALSE NEIGHBOUR: 'it returns false'. Refute it at one input. -/
def appliQuietWrong : ChangeSpec := { name := "appliQuiet", fn := fun _ => fun
  | [d] => { results := [.lit (.bool false)], args := [d] }
  | _ => none }
def AppliQuietWrongFalsely : Prop := appliQuietRow.holds Try.pinned (OpenSpec.ofChange appliQuietWrong)

/-- 'kissgatelaw15.AppliPairs': WHATEVER THE INPUT: true; the input reads as it did. -/
def appliPairsSpec : ChangeSpec := { name := "appliPairs", fn := fun _ => fun
  | [d] => { results := [.lit (.bool true)], args := [d] }
  | _ => none }
def appliPairsRow : OpenClaim := { program := "ytnifdbhihbjeaaa", sum := "1b22faa06c52700bee618126dbd2406a8900f9dc6b5a90bef4506fd3b10503f6", func := "kissgate/kissgatelaw15.AppliPairs", spec := "appliPairs", apart := false }
def AppliPairsSaid : Prop := appliPairsRow.holds Try.pinned (OpenSpec.ofChange appliPairsSpec)

/-- ITS FALSE NEIGHBOUR: 'it returns false'. Refute it at one input. -/
def appliPairsWrong : ChangeSpec := { name := "appliPairs", fn := fun _ => fun
  | [d] => { results := [.lit (.bool false)], args := [d] }
  | _ => none }
def AppliPairsWrongFalsely : Prop := appliPairsRow.holds Try.pinned (OpenSpec.ofChange appliPairsWrong)

/- THE SECOND FORM. 'bulk': how many values and letters a reading holds, each counted each time it is reached (what is shared counts as often as it is met; a slice's spare places count too). A statement '..UptoSaid' is the law's where the arguments, and the package variables that the reading takes, are together of bulk at most 1048576: NARROWER than '..Said'. Prove '..Said' where nothing that the law and all that it calls make is longer than what came in: it says more and counts as full. Else prove '..UptoSaid'. A law counts once. -/
mutual
def uptoBulk {H : Type} : DataW H → Nat
  | .lit (.string bytes) => bytes.length + 1
  | .lit _ => 1
  | .nil => 1
  | .ptr d => uptoBulk d + 1
  | .slice elems spare => uptoBulkAll elems + uptoBulkAll spare + 1
  | .agg parts => uptoBulkAll parts + 1
  | .iface _ d => uptoBulk d + 1
  | .map entries => uptoBulkEntries entries + 1
  | .held _ => 1
def uptoBulkAll {H : Type} : List (DataW H) → Nat
  | [] => 0
  | d :: r => uptoBulk d + uptoBulkAll r
def uptoBulkEntries {H : Type} : List (Lit × DataW H) → Nat
  | [] => 0
  | x :: r => uptoBulkEntry x + uptoBulkEntries r
def uptoBulkEntry {H : Type} : Lit × DataW H → Nat
  | (.string bytes, d) => bytes.length + uptoBulk d + 1
  | (_, d) => uptoBulk d + 1
 end
def uptoSmall : (H : Type) → List (DataW H) → Bool := fun _ ds => decide (uptoBulkAll ds ≤ 1048576)
def OpenSpec.upto (s : _root_.Go.ChangeSpec) : _root_.Go.OpenSpec := { _root_.Go.OpenSpec.ofChange s with cond := some uptoSmall }

/-- 'kissgatelaw15.AppliDoes', WHERE WHAT IT READS IS OF BULK AT MOST 1048576: true; the input reads as it did. -/
def appliDoesUptoRow : OpenClaim := { program := "ytnifdbhihbjeaaa", sum := "1b22faa06c52700bee618126dbd2406a8900f9dc6b5a90bef4506fd3b10503f6", func := "kissgate/kissgatelaw15.AppliDoes", spec := "appliDoes", apart := false, narrowed := true }
def AppliDoesUptoSaid : Prop := appliDoesUptoRow.holds Try.pinned (OpenSpec.upto appliDoesSpec)

/-- 'kissgatelaw15.AppliSays', WHERE WHAT IT READS IS OF BULK AT MOST 1048576: true; the input reads as it did. -/
def appliSaysUptoRow : OpenClaim := { program := "ytnifdbhihbjeaaa", sum := "1b22faa06c52700bee618126dbd2406a8900f9dc6b5a90bef4506fd3b10503f6", func := "kissgate/kissgatelaw15.AppliSays", spec := "appliSays", apart := false, narrowed := true }
def AppliSaysUptoSaid : Prop := appliSaysUptoRow.holds Try.pinned (OpenSpec.upto appliSaysSpec)

/-- 'kissgatelaw15.AppliQuiet', WHERE WHAT IT READS IS OF BULK AT MOST 1048576: true; the input reads as it did. -/
def appliQuietUptoRow : OpenClaim := { program := "ytnifdbhihbjeaaa", sum := "1b22faa06c52700bee618126dbd2406a8900f9dc6b5a90bef4506fd3b10503f6", func := "kissgate/kissgatelaw15.AppliQuiet", spec := "appliQuiet", apart := false, narrowed := true }
def AppliQuietUptoSaid : Prop := appliQuietUptoRow.holds Try.pinned (OpenSpec.upto appliQuietSpec)

/-- 'kissgatelaw15.AppliPairs', WHERE WHAT IT READS IS OF BULK AT MOST 1048576: true; the input reads as it did. -/
def appliPairsUptoRow : OpenClaim := { program := "ytnifdbhihbjeaaa", sum := "1b22faa06c52700bee618126dbd2406a8900f9dc6b5a90bef4506fd3b10503f6", func := "kissgate/kissgatelaw15.AppliPairs", spec := "appliPairs", apart := false, narrowed := true }
def AppliPairsUptoSaid : Prop := appliPairsUptoRow.holds Try.pinned (OpenSpec.upto appliPairsSpec)

end Rows
end Go.Proofs.Ytnifdbhihbjeaaa
