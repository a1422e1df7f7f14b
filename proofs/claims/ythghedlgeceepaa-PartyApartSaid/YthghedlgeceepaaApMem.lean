/- An applicant as it lies in memory. No condition. -/
import Derived.Test.YthghedlgeceepaaApP
namespace Go.Proofs.Ythghedlgeceepaa
open Go.RowKit
set_option maxRecDepth 100000

def Ap.arr (a : Ap) : Array Value := #[.int .i64 a.state, .int .i64 a.born]
/-- In memory: a block of its own. -/
abbrev ApAt (w : World) (g : Nat) (a : Ap) : Prop := Blk w g 95 a.arr
section
variable {w : World} {g : Nat} {a : Ap}
theorem ApAt.c0 (h : ApAt w g a) : w.cell? ⟨g, 0, none⟩ = some (.int .i64 a.state) := h.cell 0
theorem ApAt.c1 (h : ApAt w g a) : w.cell? ⟨g, 1, none⟩ = some (.int .i64 a.born) := h.cell 1
end
end Go.Proofs.Ythghedlgeceepaa
