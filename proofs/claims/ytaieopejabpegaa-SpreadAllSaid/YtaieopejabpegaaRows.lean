/-
  No cell of these rows narrows 'for every input' (looked for: loops, veiled, ifaces, maps, wideKeys, modest, calm, conditions, laid).
  DERIVED. THE GIVEN ROWS OF THIS SEAT. 5 by the template 'for every input the law returns true; each argument reads behind the call as it read before'; 0 by the template 'total and deterministic' (their statements: YtaieopejabpegaaTotals.lean).
  GIVEN WITH THE SEED: the statements are not yours to turn. If you find one false, say at which input.
  Laid BY PROGRAM, IN A SANDBOX (cutbox-rows.mjs): the forced cells as the released guide's own fill.sh prints them over the translation 5a836782eefb40ae… (all of the seat's roots in one cut). By AI agents, Wed Nov 11 2026. No macro, syntax, notation, axiom, sorry.
-/
import Derived.Test.YtaieopejabpegaaChecked
import GoSem.Claim
import GoSem.ClaimJoined
import GoSem.ClaimMapViews
import Derived.JoinedTies
import Derived.KernelRfl
namespace Go.Proofs.Ytaieopejabpegaa
/- THE CELL 'sum', in the pinned program and in every row, IS THE sha256 OF THE DUMP (.gsa) THAT YtaieopejabpegaaProg.lean LOADS. Nothing in Lean hashes anything: it is a label: what it is worth is what the hold of that sum in a sandbox is worth. -/
noncomputable def Try.pinned : Pinned := { name := "ytaieopejabpegaa", sum := "5a836782eefb40aed1d691048ad7ac2437d30f3dded60095491c7a522e33ba72", checked := Try.checked }
namespace Rows
def none {H : Type} : Left H := { results := [], args := [] }

/-- 'kissgatelaw17.SpreadWants': WHATEVER THE INPUT: true; the input reads as it did. -/
def spreadWantsSpec : ChangeSpec := { name := "spreadWants", fn := fun _ => fun
  | [d1, d2, d3] => { results := [.lit (.bool true)], args := [d1, d2, d3] }
  | _ => none }
def spreadWantsRow : OpenClaim := { program := "ytaieopejabpegaa", sum := "5a836782eefb40aed1d691048ad7ac2437d30f3dded60095491c7a522e33ba72", func := "kissgate/kissgatelaw17.SpreadWants", spec := "spreadWants", apart := false }
def SpreadWantsSaid : Prop := spreadWantsRow.holds Try.pinned (OpenSpec.ofChange spreadWantsSpec)

/-- ITS FALSE NEIGHBOUR: 'it returns false'. Refute it at one input. -/
def spreadWantsWrong : ChangeSpec := { name := "spreadWants", fn := fun _ => fun
  | [d1, d2, d3] => { results := [.lit (.bool false)], args := [d1, d2, d3] }
  | _ => none }
def SpreadWantsWrongFalsely : Prop := spreadWantsRow.holds Try.pinned (OpenSpec.ofChange spreadWantsWrong)

/-- 'kissgatelaw17.SpreadAll': WHATEVER THE INPUT: true; the input reads as it did. -/
def spreadAllSpec : ChangeSpec := { name := "spreadAll", fn := fun _ => fun
  | [d1, d2, d3] => { results := [.lit (.bool true)], args := [d1, d2, d3] }
  | _ => none }
def spreadAllRow : OpenClaim := { program := "ytaieopejabpegaa", sum := "5a836782eefb40aed1d691048ad7ac2437d30f3dded60095491c7a522e33ba72", func := "kissgate/kissgatelaw17.SpreadAll", spec := "spreadAll", unfollowed := true, recurses := true, apart := false }
def SpreadAllSaid : Prop := spreadAllRow.holds Try.pinned (OpenSpec.ofChange spreadAllSpec)

/-- ITS FALSE NEIGHBOUR: 'it returns false'. Refute it at one input. -/
def spreadAllWrong : ChangeSpec := { name := "spreadAll", fn := fun _ => fun
  | [d1, d2, d3] => { results := [.lit (.bool false)], args := [d1, d2, d3] }
  | _ => none }
def SpreadAllWrongFalsely : Prop := spreadAllRow.holds Try.pinned (OpenSpec.ofChange spreadAllWrong)

/-- 'kissgatelaw17.SpreadBack': WHATEVER THE INPUT: true; the input reads as it did. -/
def spreadBackSpec : ChangeSpec := { name := "spreadBack", fn := fun _ => fun
  | [d1, d2, d3] => { results := [.lit (.bool true)], args := [d1, d2, d3] }
  | _ => none }
def spreadBackRow : OpenClaim := { program := "ytaieopejabpegaa", sum := "5a836782eefb40aed1d691048ad7ac2437d30f3dded60095491c7a522e33ba72", func := "kissgate/kissgatelaw17.SpreadBack", spec := "spreadBack", apart := false }
def SpreadBackSaid : Prop := spreadBackRow.holds Try.pinned (OpenSpec.ofChange spreadBackSpec)

/-- ITS FALSE NEIGHBOUR: 'it returns false'. Refute it at one input. -/
def spreadBackWrong : ChangeSpec := { name := "spreadBack", fn := fun _ => fun
  | [d1, d2, d3] => { results := [.lit (.bool false)], args := [d1, d2, d3] }
  | _ => none }
def SpreadBackWrongFalsely : Prop := spreadBackRow.holds Try.pinned (OpenSpec.ofChange spreadBackWrong)

/-- 'kissgatelaw17.SpreadClosed': WHATEVER THE INPUT: true; the input reads as it did. -/
def spreadClosedSpec : ChangeSpec := { name := "spreadClosed", fn := fun _ => fun
  | [d1, d2, d3, d4] => { results := [.lit (.bool true)], args := [d1, d2, d3, d4] }
  | _ => none }
def spreadClosedRow : OpenClaim := { program := "ytaieopejabpegaa", sum := "5a836782eefb40aed1d691048ad7ac2437d30f3dded60095491c7a522e33ba72", func := "kissgate/kissgatelaw17.SpreadClosed", spec := "spreadClosed", apart := false }
def SpreadClosedSaid : Prop := spreadClosedRow.holds Try.pinned (OpenSpec.ofChange spreadClosedSpec)

/-- ITS FALSE NEIGHBOUR: 'it returns false'. Refute it at one input. -/
def spreadClosedWrong : ChangeSpec := { name := "spreadClosed", fn := fun _ => fun
  | [d1, d2, d3, d4] => { results := [.lit (.bool false)], args := [d1, d2, d3, d4] }
  | _ => none }
def SpreadClosedWrongFalsely : Prop := spreadClosedRow.holds Try.pinned (OpenSpec.ofChange spreadClosedWrong)

/-- 'kissgatelaw17.SpreadUp': WHATEVER THE INPUT: true; the input reads as it did. -/
def spreadUpSpec : ChangeSpec := { name := "spreadUp", fn := fun _ => fun
  | [d1, d2, d3, d4, d5] => { results := [.lit (.bool true)], args := [d1, d2, d3, d4, d5] }
  | _ => none }
def spreadUpRow : OpenClaim := { program := "ytaieopejabpegaa", sum := "5a836782eefb40aed1d691048ad7ac2437d30f3dded60095491c7a522e33ba72", func := "kissgate/kissgatelaw17.SpreadUp", spec := "spreadUp", apart := false }
def SpreadUpSaid : Prop := spreadUpRow.holds Try.pinned (OpenSpec.ofChange spreadUpSpec)

/-- ITS FALSE NEIGHBOUR: 'it returns false'. Refute it at one input. -/
def spreadUpWrong : ChangeSpec := { name := "spreadUp", fn := fun _ => fun
  | [d1, d2, d3, d4, d5] => { results := [.lit (.bool false)], args := [d1, d2, d3, d4, d5] }
  | _ => none }
def SpreadUpWrongFalsely : Prop := spreadUpRow.holds Try.pinned (OpenSpec.ofChange spreadUpWrong)

/- THE SECOND FORM. 'bulk': how many values and letters a reading holds, each counted each time it is reached (what is shared counts as often as it is met; a slice's spare places count too). A statement '..UptoSaid' is the law's where the arguments, and the package variables that the reading takes, are together of bulk at most 1048576: NARROWER than '..Said'. Prove '..Said' where nothing that the law and all that it calls make is longer than what came in: it says more and counts as full. Else prove '..UptoSaid'. A law counts once. -/
mutual
def uptoBulk {H : Type} : DataW H → Nat
  | .lit (.string bytes) => bytes.length + 1
  | .lit _ => 1
  | .nil => 1
  | .ptr d => uptoBulk d + 1
  | .slice elems spare => uptoBulkAll elems + uptoBulkAll spare + 1
  | .agg parts => uptoBulkAll parts + 1
  | .iface _ d => uptoBulk d + 1
  | .map entries => uptoBulkEntries entries + 1
  | .held _ => 1
def uptoBulkAll {H : Type} : List (DataW H) → Nat
  | [] => 0
  | d :: r => uptoBulk d + uptoBulkAll r
def uptoBulkEntries {H : Type} : List (Lit × DataW H) → Nat
  | [] => 0
  | x :: r => uptoBulkEntry x + uptoBulkEntries r
def uptoBulkEntry {H : Type} : Lit × DataW H → Nat
  | (.string bytes, d) => bytes.length + uptoBulk d + 1
  | (_, d) => uptoBulk d + 1
 end
def uptoSmall : (H : Type) → List (DataW H) → Bool := fun _ ds => decide (uptoBulkAll ds ≤ 1048576)
def OpenSpec.upto (s : _root_.Go.ChangeSpec) : _root_.Go.OpenSpec := { _root_.Go.OpenSpec.ofChange s with cond := some uptoSmall }

/-- 'kissgatelaw17.SpreadWants', WHERE WHAT IT READS IS OF BULK AT MOST 1048576: true; the input reads as it did. -/
def spreadWantsUptoRow : OpenClaim := { program := "ytaieopejabpegaa", sum := "5a836782eefb40aed1d691048ad7ac2437d30f3dded60095491c7a522e33ba72", func := "kissgate/kissgatelaw17.SpreadWants", spec := "spreadWants", apart := false, narrowed := true }
def SpreadWantsUptoSaid : Prop := spreadWantsUptoRow.holds Try.pinned (OpenSpec.upto spreadWantsSpec)

/-- 'kissgatelaw17.SpreadAll', WHERE WHAT IT READS IS OF BULK AT MOST 1048576: true; the input reads as it did. -/
def spreadAllUptoRow : OpenClaim := { program := "ytaieopejabpegaa", sum := "5a836782eefb40aed1d691048ad7ac2437d30f3dded60095491c7a522e33ba72", func := "kissgate/kissgatelaw17.SpreadAll", spec := "spreadAll", unfollowed := true, recurses := true, apart := false, narrowed := true }
def SpreadAllUptoSaid : Prop := spreadAllUptoRow.holds Try.pinned (OpenSpec.upto spreadAllSpec)

/-- 'kissgatelaw17.SpreadBack', WHERE WHAT IT READS IS OF BULK AT MOST 1048576: true; the input reads as it did. -/
def spreadBackUptoRow : OpenClaim := { program := "ytaieopejabpegaa", sum := "5a836782eefb40aed1d691048ad7ac2437d30f3dded60095491c7a522e33ba72", func := "kissgate/kissgatelaw17.SpreadBack", spec := "spreadBack", apart := false, narrowed := true }
def SpreadBackUptoSaid : Prop := spreadBackUptoRow.holds Try.pinned (OpenSpec.upto spreadBackSpec)

/-- 'kissgatelaw17.SpreadClosed', WHERE WHAT IT READS IS OF BULK AT MOST 1048576: true; the input reads as it did. -/
def spreadClosedUptoRow : OpenClaim := { program := "ytaieopejabpegaa", sum := "5a836782eefb40aed1d691048ad7ac2437d30f3dded60095491c7a522e33ba72", func := "kissgate/kissgatelaw17.SpreadClosed", spec := "spreadClosed", apart := false, narrowed := true }
def SpreadClosedUptoSaid : Prop := spreadClosedUptoRow.holds Try.pinned (OpenSpec.upto spreadClosedSpec)

/-- 'kissgatelaw17.SpreadUp', WHERE WHAT IT READS IS OF BULK AT MOST 1048576: true; the input reads as it did. -/
def spreadUpUptoRow : OpenClaim := { program := "ytaieopejabpegaa", sum := "5a836782eefb40aed1d691048ad7ac2437d30f3dded60095491c7a522e33ba72", func := "kissgate/kissgatelaw17.SpreadUp", spec := "spreadUp", apart := false, narrowed := true }
def SpreadUpUptoSaid : Prop := spreadUpUptoRow.holds Try.pinned (OpenSpec.upto spreadUpSpec)

end Rows
end Go.Proofs.Ytaieopejabpegaa
