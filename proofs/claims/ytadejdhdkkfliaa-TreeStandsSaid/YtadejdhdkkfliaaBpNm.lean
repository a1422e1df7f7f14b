/- Names of bridges as plain numbers. No condition. -/
import Derived.Test.YtadejdhdkkfliaaAddr
namespace Go.Proofs.Ytadejdhdkkfliaa
open Go.RowKit

/-- A bridge's name. -/
def nameB (a : Int) : Bool := decide (0 < a ∧ a < 4503599627370496 ∧ a / 1099511627776 % 2 = 0)
def idOf (rank mac : Int) : Int := if 0 ≤ rank ∧ rank ≤ 15 ∧ goodB mac = true ∧ manyB mac = false then rank * 281474976710656 + mac else 0
theorem manyB_in {m : Int} (h0 : 0 ≤ m) (h1 : m ≤ 281474976710655) : manyB m = decide (m / 1099511627776 % 2 = 1) := by
  unfold manyB
  by_cases h : m / 1099511627776 % 2 = 1
  · rw [decide_eq_true h, decide_eq_true ⟨h0, h1, h⟩]
  · rw [decide_eq_false h, decide_eq_false (fun x => h x.2.2)]
theorem idOf_range (rank mac : Int) : idOf rank mac = 0 ∨ nameB (idOf rank mac) = true ∧ 0 ≤ rank ∧ rank ≤ 15 ∧ 0 ≤ mac ∧ mac ≤ 281474976710655 ∧ idOf rank mac = rank * 281474976710656 + mac := by
  unfold idOf
  split
  · rename_i h
    obtain ⟨h0, h1, h2, h3⟩ := h
    simp only [goodB, decide_eq_true_eq] at h2
    rw [manyB_in h2.1 h2.2] at h3
    have h3 := of_decide_eq_false h3
    by_cases hz : rank * 281474976710656 + mac = 0
    · exact .inl hz
    · refine .inr ⟨decide_eq_true ⟨by omega, by omega, by omega⟩, h0, h1, h2.1, h2.2, rfl⟩
  · exact .inl rfl
/-- A name is that of its rank and its address, and nothing else is. -/
theorem nameB_is (a : Int) : nameB a = true ↔ a ≠ 0 ∧ idOf (a / 281474976710656) (a % 281474976710656) = a := by
  unfold nameB idOf
  rw [decide_eq_true_eq]
  constructor
  · rintro ⟨h1, h2, h3⟩
    refine ⟨by omega, ?_⟩
    rw [if_pos ⟨by omega, by omega, decide_eq_true (by omega), by rw [manyB_in (by omega) (by omega)]; exact decide_eq_false (by omega)⟩]
    omega
  · rintro ⟨h1, h2⟩
    split at h2
    · rename_i h
      obtain ⟨h3, h4, h5, h6⟩ := h
      rw [manyB_in (by omega) (by omega)] at h6
      have h6 := of_decide_eq_false h6
      omega
    · omega
theorem nameB_neg {a : Int} (h : a ≤ 0) : nameB a = false := decide_eq_false (by omega)
end Go.Proofs.Ytadejdhdkkfliaa
