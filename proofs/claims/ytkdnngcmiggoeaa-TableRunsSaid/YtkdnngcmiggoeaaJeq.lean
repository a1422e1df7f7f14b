/- Two cells held against each other by the program's '!='; where a row's cells stand among the whole run's. No condition. -/
import Derived.Test.YtkdnngcmiggoeaaJnums
namespace Go.Proofs.Ytkdnngcmiggoeaa
open Go.RowKit
set_option maxRecDepth 100000
set_option maxHeartbeats 1000000 in
theorem neq_ce (u0 u1 v0 v1 : Int) (w : World) : (binOp .neq 56 (.agg #[.int .i64 u0, .int .i64 u1]) (.agg #[.int .i64 v0, .int .i64 v1])).run Try.prog w = .ok (.bool (!decide (u0 = v0 ∧ u1 = v1))) w := by
  by_cases h0 : u0 = v0
  · subst h0
    by_cases h1 : u1 = v1
    · subst h1
      go_simp
    · go_simp
  · go_simp
theorem bel_dr {B : Nat} {a w : World} (h : Below B a w) : Below B a w.drew := ⟨h.os, h.tape, h.output, h.size, h.block⟩
theorem take_drop_run (t : Tb) (s : Int) (es : List Int) (j : Nat) : runT t s es = runT t s (es.take j) ++ runT t (endT t s (es.take j)) (es.drop j) := by
  rw [← runT_append, List.take_append_drop]
theorem run_at {t : Tb} {s : Int} {es : List Int} {j : Nat} (h : j < es.length) {c : Ce} (hc : cellT t (endT t s (es.take j)) (es.getD j 0) = some c) : (runT t s (es.take j)).length < (runT t s es).length ∧ (runT t s es).getD (runT t s (es.take j)).length ce0 = c := by
  rw [take_drop_run t s es (j + 1), (run_some h hc).1]
  constructor
  · simp
  · rw [List.getD_eq_getElem?_getD, List.append_assoc, List.getElem?_append_right (Nat.le_refl _)]
    simp
theorem end_last (t : Tb) (s : Int) (es : List Int) : (runT t s es = [] ∧ endT t s es = s) ∨ (0 < (runT t s es).length ∧ ((runT t s es).getD ((runT t s es).length - 1) ce0).1 = endT t s es) := by
  induction es generalizing s with
  | nil => exact .inl ⟨rfl, rfl⟩
  | cons e es ih =>
    simp only [runT, endT]
    cases cellT t s e with
    | none => exact ih s
    | some c =>
      refine .inr ⟨by simp, ?_⟩
      simp only
      rcases ih c.1 with ⟨h1, h2⟩ | ⟨h1, h2⟩
      · rw [h1, h2]
        rfl
      · rw [← h2, List.length_cons, Nat.add_sub_cancel]
        obtain ⟨k, hk⟩ : ∃ k, (runT t c.1 es).length = k + 1 := ⟨(runT t c.1 es).length - 1, by omega⟩
        rw [hk]
        rfl
end Go.Proofs.Ytkdnngcmiggoeaa
