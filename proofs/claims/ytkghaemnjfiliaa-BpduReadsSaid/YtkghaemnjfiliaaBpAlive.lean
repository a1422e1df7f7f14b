/- What the laws of layer 8 ask first; good messages read again. No condition. -/
import Derived.Test.YtkghaemnjfiliaaBpRead
namespace Go.Proofs.Ytkghaemnjfiliaa
open Go.RowKit

theorem balive_any (w : World) :
    Calls Try.prog 8 #[] w fun e w' => e = .returned (.bool true) ∧ w = w' := by
  go_enter Try.func8, Try.ntmps8
  go_wp2_with (first | (go_at_call 14; refine (id_any 1 2 _).mono ?_; rw [show idOf 1 2 = 281474976710658 by decide]; rintro e w' ⟨rfl, rfl⟩) | (go_at_call 17; refine (bridge_any 1 (by decide) _).mono ?_; rw [show nameB 1 = true by decide]; rintro e w' ⟨rfl, rfl⟩))
  go_ret
  exact ⟨rfl, rfl⟩
theorem braw_size (b : Bp) : (⟨b.raw.toArray⟩ : ByteArray).size = 36 := by
  show b.raw.toArray.size = 36
  rw [List.size_toArray, bp_length]
theorem bread_good (b : Bp) (hg : b.good = true) (w : World) :
    Calls Try.prog 12 #[.string ⟨b.raw.toArray⟩] w fun e w' => e = .returned (.tuple #[b.v, .int .i64 0]) ∧ Below w.heap.size w w' := by
  have h := bread_any ⟨b.raw.toArray⟩ w (by rw [braw_size]; decide)
  rw [show breadV ⟨b.raw.toArray⟩ = .tuple #[b.v, .int .i64 0] by rw [breadV, bp_parse hg, if_pos (by simp [Bp.whole, hg])]] at h
  exact h
theorem bread_no (s : ByteArray) (hs : s.size ≤ 1048576) (h36 : s.size ≠ 36) (w : World) :
    Calls Try.prog 12 #[.string s] w fun e w' => e = .returned (.tuple #[Bp.zero.v, .int .i64 4]) ∧ Below w.heap.size w w' := by
  have h := bread_any s w hs
  rw [show breadV s = .tuple #[Bp.zero.v, .int .i64 4] by
    rw [breadV, if_neg]
    simp only [Bp.whole, Bool.and_eq_true, decide_eq_true_eq, not_and]
    intro _ e
    rw [← e, braw_size] at h36
    exact h36 rfl] at h
  exact h
end Go.Proofs.Ytkghaemnjfiliaa
