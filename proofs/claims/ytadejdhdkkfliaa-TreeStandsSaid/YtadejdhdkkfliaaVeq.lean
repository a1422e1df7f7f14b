/- Two vectors held against each other by the program's '=='. No condition. -/
import Derived.Test.YtadejdhdkkfliaaVmem
namespace Go.Proofs.Ytadejdhdkkfliaa
open Go.RowKit
set_option maxRecDepth 100000
set_option maxHeartbeats 1000000 in
theorem eql_vec (u v : Vec) (w : World) : (binOp .eql 32 u.v v.v).run Try.prog w = .ok (.bool (decide (u = v))) w := by
  obtain ⟨u0, u1, u2, u3⟩ := u
  obtain ⟨v0, v1, v2, v3⟩ := v
  simp only [Vec.v, Vec.arr]
  by_cases h0 : u0 = v0
  · subst h0
    by_cases h1 : u1 = v1
    · subst h1
      by_cases h2 : u2 = v2
      · subst h2
        by_cases h3 : u3 = v3
        · subst h3
          go_simp
        · go_simp
      · go_simp
    · go_simp
  · go_simp
end Go.Proofs.Ytadejdhdkkfliaa
