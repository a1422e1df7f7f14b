/- What lies below stays when memory is made. No condition. -/
import Derived.Test.YtnhnllkcnpbgoaaMem
namespace Go.Proofs.Ytnhnllkcnpbgoaa
open Go.RowKit
theorem bel_alloc2 (w : World) (a b : Obj) : Below w.heap.size w ((w.alloc a).alloc b) := ((Below.refl _ _).alloc (Nat.le_refl _) _).alloc (by simp) _
theorem bel_alloc (w : World) (a : Obj) : Below w.heap.size w (w.alloc a) := (Below.refl _ _).alloc (Nat.le_refl _) _
end Go.Proofs.Ytnhnllkcnpbgoaa
