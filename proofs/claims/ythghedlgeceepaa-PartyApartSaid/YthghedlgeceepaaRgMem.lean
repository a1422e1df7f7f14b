/- A registrar at a port as it lies in memory. No condition. -/
import Derived.Test.YthghedlgeceepaaJnext
import Derived.Test.YthghedlgeceepaaRgP
namespace Go.Proofs.Ythghedlgeceepaa
open Go.RowKit
set_option maxRecDepth 100000

def Rg.arr (r : Rg) : Array Value := #[.int .i64 r.mode, .int .i64 r.state, .int .i64 r.born, .int .i64 r.left]
/-- In memory: a block of its own. -/
abbrev RgAt (w : World) (g : Nat) (r : Rg) : Prop := Blk w g 98 r.arr
section
variable {w : World} {g : Nat} {r : Rg}
theorem RgAt.c0 (h : RgAt w g r) : w.cell? ⟨g, 0, none⟩ = some (.int .i64 r.mode) := h.cell 0
theorem RgAt.c1 (h : RgAt w g r) : w.cell? ⟨g, 1, none⟩ = some (.int .i64 r.state) := h.cell 1
theorem RgAt.c2 (h : RgAt w g r) : w.cell? ⟨g, 2, none⟩ = some (.int .i64 r.born) := h.cell 2
theorem RgAt.c3 (h : RgAt w g r) : w.cell? ⟨g, 3, none⟩ = some (.int .i64 r.left) := h.cell 3
end
end Go.Proofs.Ythghedlgeceepaa
