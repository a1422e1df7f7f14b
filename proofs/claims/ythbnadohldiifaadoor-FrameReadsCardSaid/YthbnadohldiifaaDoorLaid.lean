/- The table as the row's condition lays it: what the walks ask of it, and a world that meets the condition. No condition beyond the row's own. -/
import Derived.Test.YthbnadohldiifaaDoorFrame
import Derived.Test.YthbnadohldiifaaDoorUp
import Derived.LaidMore
import Derived.Stop.Joined
import Derived.Lib.LaidTab
import Derived.SizedLaws
namespace Go.Proofs.YthbnadohldiifaaDoor
open Go.ChangeShapes Go.WideShapes Go.ChangeAt Go.RowKit

theorem gTurns : Tryd.prog.globalNamed "kissgate/check.turns" = some 0 := by kernel_rfl
theorem tTurns : (Tryd.prog.globals[0]?).map (·.type) = some 63 := by kernel_rfl
theorem cInt : Tryd.prog.cellsOf 3 = 1 := by kernel_rfl
theorem cTurns : Tryd.prog.cellsOf 63 = 16 := by kernel_rfl
/-- What the rows list. -/
def laidL : List (String × DataW Unit) := [("kissgate/check.turns", Rows.laid_kissgate_check_turns)]

/-- The door's own heap meets the condition. -/
theorem door_met (os : Os) (args : Array Value) : laidMetH Tryd.prog laidL ((World.doorLaid Tryd.prog 400 os).forCall (fun _ _ => 0) ⟨#[], args, []⟩).memory :=
  laidMetH_of_parts3 (fuel := 8) (laidMet_of_run' 8 (by kernel_rfl) (by kernel_rfl)) (by kernel_rfl) (by kernel_rfl)

def tabI : List Int := [0, 4129, 8258, 12387, 16516, 20645, 24774, 28903, 33032, 37161, 41290, 45419, 49548, 53677, 57806, 61935]
theorem tabI_is : ∀ i, i < 16 → tabI.getD i 0 = ((Crc.tab.getD i 0 : Nat) : Int) := by decide
/-- What the condition gives the walks. -/
theorem tab_of_laid {W : World} (h : laidMetH Tryd.prog laidL W) : Tab W := by
  rw [MakeChecks.laidMetH_plain _ _ _ (by kernel_rfl)] at h
  have hT : Lib.TabIs Tryd.prog W "kissgate/check.turns" .i64 tabI :=
    Lib.tabIs_of_head (rest := []) gTurns tTurns Tryd.underlying63 Tryd.underlying3 cInt cTurns h
  intro i hi
  rw [hT.cell gTurns i hi, tabI_is i hi]
end Go.Proofs.YthbnadohldiifaaDoor
