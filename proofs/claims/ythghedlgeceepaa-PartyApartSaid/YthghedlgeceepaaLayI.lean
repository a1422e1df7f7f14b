/- The library's clone of numbers, laid at this program. No condition. -/
import Derived.Test.YthghedlgeceepaaMem
import Derived.Shelf.SlicesE.Clone
namespace Go.Proofs.Ythghedlgeceepaa
open Go.Shelf
set_option maxRecDepth 100000

def layCloneI_ren : Go.Shelf.Ren := ⟨fun | 41 => 47 | n => n, fun | 22 => 22 | 23 => 3 | 4 => 4 | n => n, fun | n => n⟩
theorem layCloneI : Go.Proofs.SlLaysE0.n41 Try.prog layCloneI_ren := {
  mixed := by kernel_rfl
  f41 := ⟨Try.f47.name, by decide, Try.func47.trans (congrArg some (by kernel_rfl))⟩
  t4 := Try.underlying4
  a4 := Try.isAgg4
  z4 := Try.sizeOf4
  v4 := Try.zeroValue4
  t22 := Try.underlying22
  a22 := Try.isAgg22
  z22 := Try.sizeOf22
  v22 := Try.zeroValue22 }
end Go.Proofs.Ythghedlgeceepaa
