/-
  DERIVED. GIVEN WITH THE SEED: THE CARDS: each row of YtjkldopjiabamaaDoorRows.lean that lists a variable, with what it lists TIED to the program's text (the seventh form; the later family's looks); each row that meets fmt, with fmt's text TOLD by the authors' own Lean function (tested against real Go, not proved from fmt's source: count such statements apart). THE CARD IS WHAT COUNTS. Prove the row's statement (the work); the ties are given (YtjkldopjiabamaaDoorTie.lean); close each card by the builder's one call (the guide's Derived/Test/ToyasCard.lean, 'card_holds'). Laid BY PROGRAM, IN A SANDBOX (cutbox-door.mjs). By AI agents, Wed Nov 11 2026. No macro, syntax, notation, axiom, sorry.
-/
import Derived.Test.YtjkldopjiabamaaDoorRows
import GoSem.ClaimSeven
namespace Go.Proofs.YtjkldopjiabamaaDoor
namespace Rows

/-- THE TIED CARD OF 'kissgatelaw04.CheckIs'. -/
def checkIsCard : Claim7 := { stood := { row := checkIsRow, standIns := [], harness := (true, "d6ced39dbd73351e9ef372d92225a0e13a2a75dfac84f930481c0bf5af7902a8"), looks := false }, kinds := [], alts := [], laidByText := true, laidKinds := [.data], laidTests := true, laidLooks := .later }
def CheckIsCardSaid : Prop := Claim7.holds Tryd.pinned (.plain (OpenSpec.ofChange checkIsSpec)) checkIsCard

/-- THE TIED CARD OF 'kissgatelaw04.CheckStrips'. -/
def checkStripsCard : Claim7 := { stood := { row := checkStripsRow, standIns := [], harness := (true, "d6ced39dbd73351e9ef372d92225a0e13a2a75dfac84f930481c0bf5af7902a8"), looks := false }, kinds := [], alts := [], laidByText := true, laidKinds := [.data], laidTests := true, laidLooks := .later }
def CheckStripsCardSaid : Prop := Claim7.holds Tryd.pinned (.plain (OpenSpec.ofChange checkStripsSpec)) checkStripsCard

/-- THE TIED CARD OF 'kissgatelaw04.CheckRow'. -/
def checkRowCard : Claim7 := { stood := { row := checkRowRow, standIns := [], harness := (true, "d6ced39dbd73351e9ef372d92225a0e13a2a75dfac84f930481c0bf5af7902a8"), looks := false }, kinds := [], alts := [], laidByText := true, laidKinds := [.data], laidTests := true, laidLooks := .later }
def CheckRowCardSaid : Prop := Claim7.holds Tryd.pinned (.plain (OpenSpec.ofChange checkRowSpec)) checkRowCard

/-- THE TIED CARD OF 'kissgatelaw04.CheckBits'. -/
def checkBitsCard : Claim7 := { stood := { row := checkBitsRow, standIns := [], harness := (true, "d6ced39dbd73351e9ef372d92225a0e13a2a75dfac84f930481c0bf5af7902a8"), looks := false }, kinds := [], alts := [], laidByText := true, laidKinds := [.data], laidTests := true, laidLooks := .later }
def CheckBitsCardSaid : Prop := Claim7.holds Tryd.pinned (.plain (OpenSpec.ofChange checkBitsSpec)) checkBitsCard

/-- THE TIED CARD OF 'kissgatelaw04.CheckGoes'. -/
def checkGoesCard : Claim7 := { stood := { row := checkGoesRow, standIns := [], harness := (true, "d6ced39dbd73351e9ef372d92225a0e13a2a75dfac84f930481c0bf5af7902a8"), looks := false }, kinds := [], alts := [], laidByText := true, laidKinds := [.data], laidTests := true, laidLooks := .later }
def CheckGoesCardSaid : Prop := Claim7.holds Tryd.pinned (.plain (OpenSpec.ofChange checkGoesSpec)) checkGoesCard

/-- THE TIED CARD OF 'kissgatelaw04.CheckOdd'. -/
def checkOddCard : Claim7 := { stood := { row := checkOddRow, standIns := [], harness := (true, "d6ced39dbd73351e9ef372d92225a0e13a2a75dfac84f930481c0bf5af7902a8"), looks := false }, kinds := [], alts := [], laidByText := true, laidKinds := [.data], laidTests := true, laidLooks := .later }
def CheckOddCardSaid : Prop := Claim7.holds Tryd.pinned (.plain (OpenSpec.ofChange checkOddSpec)) checkOddCard

/-- THE SECOND FORM's CARD OF 'kissgatelaw04.CheckIs'. -/
def checkIsUptoCard : Claim7 := { stood := { row := checkIsUptoRow, standIns := [], harness := (true, "d6ced39dbd73351e9ef372d92225a0e13a2a75dfac84f930481c0bf5af7902a8"), looks := false }, kinds := [], alts := [], laidByText := true, laidKinds := [.data], laidTests := true, laidLooks := .later }
def CheckIsUptoCardSaid : Prop := Claim7.holds Tryd.pinned (.plain (OpenSpec.upto checkIsSpec)) checkIsUptoCard

/-- THE SECOND FORM's CARD OF 'kissgatelaw04.CheckStrips'. -/
def checkStripsUptoCard : Claim7 := { stood := { row := checkStripsUptoRow, standIns := [], harness := (true, "d6ced39dbd73351e9ef372d92225a0e13a2a75dfac84f930481c0bf5af7902a8"), looks := false }, kinds := [], alts := [], laidByText := true, laidKinds := [.data], laidTests := true, laidLooks := .later }
def CheckStripsUptoCardSaid : Prop := Claim7.holds Tryd.pinned (.plain (OpenSpec.upto checkStripsSpec)) checkStripsUptoCard

/-- THE SECOND FORM's CARD OF 'kissgatelaw04.CheckRow'. -/
def checkRowUptoCard : Claim7 := { stood := { row := checkRowUptoRow, standIns := [], harness := (true, "d6ced39dbd73351e9ef372d92225a0e13a2a75dfac84f930481c0bf5af7902a8"), looks := false }, kinds := [], alts := [], laidByText := true, laidKinds := [.data], laidTests := true, laidLooks := .later }
def CheckRowUptoCardSaid : Prop := Claim7.holds Tryd.pinned (.plain (OpenSpec.upto checkRowSpec)) checkRowUptoCard

/-- THE SECOND FORM's CARD OF 'kissgatelaw04.CheckBits'. -/
def checkBitsUptoCard : Claim7 := { stood := { row := checkBitsUptoRow, standIns := [], harness := (true, "d6ced39dbd73351e9ef372d92225a0e13a2a75dfac84f930481c0bf5af7902a8"), looks := false }, kinds := [], alts := [], laidByText := true, laidKinds := [.data], laidTests := true, laidLooks := .later }
def CheckBitsUptoCardSaid : Prop := Claim7.holds Tryd.pinned (.plain (OpenSpec.upto checkBitsSpec)) checkBitsUptoCard

/-- THE SECOND FORM's CARD OF 'kissgatelaw04.CheckGoes'. -/
def checkGoesUptoCard : Claim7 := { stood := { row := checkGoesUptoRow, standIns := [], harness := (true, "d6ced39dbd73351e9ef372d92225a0e13a2a75dfac84f930481c0bf5af7902a8"), looks := false }, kinds := [], alts := [], laidByText := true, laidKinds := [.data], laidTests := true, laidLooks := .later }
def CheckGoesUptoCardSaid : Prop := Claim7.holds Tryd.pinned (.plain (OpenSpec.upto checkGoesSpec)) checkGoesUptoCard

/-- THE SECOND FORM's CARD OF 'kissgatelaw04.CheckOdd'. -/
def checkOddUptoCard : Claim7 := { stood := { row := checkOddUptoRow, standIns := [], harness := (true, "d6ced39dbd73351e9ef372d92225a0e13a2a75dfac84f930481c0bf5af7902a8"), looks := false }, kinds := [], alts := [], laidByText := true, laidKinds := [.data], laidTests := true, laidLooks := .later }
def CheckOddUptoCardSaid : Prop := Claim7.holds Tryd.pinned (.plain (OpenSpec.upto checkOddSpec)) checkOddUptoCard
end Rows
end Go.Proofs.YtjkldopjiabamaaDoor
