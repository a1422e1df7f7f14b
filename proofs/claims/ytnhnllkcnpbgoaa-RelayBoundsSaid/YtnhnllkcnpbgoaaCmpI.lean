/- The library's Compare of two ints. No condition. -/
import Derived.Test.YtnhnllkcnpbgoaaMem
import Derived.Deep.RegionLaw
namespace Go.Proofs.Ytnhnllkcnpbgoaa
open Go.RowKit
set_option maxRecDepth 100000

/-- -1, 0 or 1. -/
def cmpI (x y : Int) : Int := if x < y then -1 else if y < x then 1 else 0
set_option maxHeartbeats 1000000 in
theorem cmpInt_any (x y : Int) (w : World) : Calls Try.prog 36 #[.int .i64 x, .int .i64 y] w fun e w' => e = .returned (.int .i64 (cmpI x y)) ∧ w = w' := by
  by_cases h1 : x < y
  · have e : cmpI x y = -1 := by simp [cmpI, h1]
    rw [e]
    go_enter Try.func36, Try.ntmps36
    go_wp2_with (go_in)
    go_ret
    exact ⟨rfl, rfl⟩
  · by_cases h2 : y < x
    · have e : cmpI x y = 1 := by simp [cmpI, h1, h2]
      rw [e]
      have d1 : decide (x < y) = false := decide_eq_false h1
      go_enter Try.func36, Try.ntmps36
      go_wp2_with (go_in)
      go_ret
      exact ⟨rfl, rfl⟩
    · have e : cmpI x y = 0 := by simp [cmpI, h1, h2]
      rw [e]
      have d1 : decide (x < y) = false := decide_eq_false h1
      have d2 : decide (y < x) = false := decide_eq_false h2
      go_enter Try.func36, Try.ntmps36
      go_wp2_with (go_in)
      go_ret
      exact ⟨rfl, rfl⟩
end Go.Proofs.Ytnhnllkcnpbgoaa
