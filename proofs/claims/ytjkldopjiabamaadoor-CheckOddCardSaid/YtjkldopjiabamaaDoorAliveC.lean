/- The law's own first look: the document's example. Its condition: the table's cells. -/
import Derived.Test.YtjkldopjiabamaaDoorStrip
namespace Go.Proofs.YtjkldopjiabamaaDoor
open Go.RowKit

theorem example_is : Crc.of [49, 50, 51, 52, 53, 54, 55, 56, 57] = 10673 := by kernel_rfl
theorem alive_any (w : World) (ht : Tab w) :
    Calls Tryd.prog 9 #[] w fun e w' => e = .returned (.bool true) ∧ w' = w := by
  go_enter Tryd.func9, Tryd.ntmps9
  go_wp2_with fail
  with_reducible refine (of_any _ _ (by decide) ht).mono ?_
  rw [example_is]
  rintro e w' ⟨rfl, rfl⟩
  go_wp2
  go_ret
  exact ⟨rfl, rfl⟩
end Go.Proofs.YtjkldopjiabamaaDoor
