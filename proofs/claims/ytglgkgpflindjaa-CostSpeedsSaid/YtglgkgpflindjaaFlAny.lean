/- Words of any kind against each other; what the speed of a cost is; what is greater than a speed. Plain; no condition. -/
import Derived.Test.YtglgkgpflindjaaFlCost
namespace Go.Proofs.Ytglgkgpflindjaa.Fl
open Ieee

theorem read_any (b : Nat) (hb : b < 18446744073709551616) :
    b ≤ infR ∨ (∃ m i, double.read b = .number true m i) ∨ double.read b = .infinity true ∨ ∃ s t, double.read b = .nan s t := by
  by_cases h : b ≤ infR
  · exact .inl h
  · right
    by_cases h1 : b < 9223372036854775808
    · right; right
      have hr : b % double.signWeight = b := by rw [sw_eq]; exact Nat.mod_eq_of_lt h1
      unfold Format.read
      rw [hr, inf_eq]
      simp only
      rw [if_neg (by rw [show double.binade = 2 ^ 52 from rfl]; have : infR = 9218868437227405312 := rfl; omega), if_neg (by omega), if_neg (by omega)]
      exact ⟨_, _, rfl⟩
    · have hn : (b / double.signWeight % 2 == 1) = true := by rw [sw_eq, show b / 9223372036854775808 = 1 by omega]; rfl
      unfold Format.read
      rw [hn]
      simp only
      split
      · exact .inl ⟨_, _, rfl⟩
      · split
        · exact .inl ⟨_, _, rfl⟩
        · split
          · exact .inr (.inl rfl)
          · exact .inr (.inr ⟨_, _, rfl⟩)

theorem order_gt {b : Nat} (h0 : 0 < b) (h : b ≤ infR) : double.order b 0 = some .gt := by
  rw [order_pos h (by decide), Nat.compare_eq_gt.2 h0]
theorem order_self {b : Nat} (h : b ≤ infR) : double.order b b = some .eq := by
  rw [order_pos h h, Nat.compare_eq_eq.2 rfl]
theorem read_zero : double.read 0 = .number false 0 (-1074) := by decide +kernel

/-- What isn't above nought: nought, below it, or none at all. -/
theorem order_not {b : Nat} (hb : b < 18446744073709551616) (h : ¬ (0 < b ∧ b ≤ infR)) :
    (double.order b b = none ∧ double.order b 0 = none) ∨ (double.order b b = some .eq ∧ (double.order b 0 = some .lt ∨ double.order b 0 = some .eq)) := by
  rcases read_any b hb with h1 | ⟨m, i, h1⟩ | h1 | ⟨s, t, h1⟩
  · obtain rfl : b = 0 := by omega
    exact .inr ⟨order_self h1, .inr (order_self h1)⟩
  · refine .inr ⟨?_, ?_⟩
    · unfold Format.order
      rw [h1]
      simp only [Datum.order]
      rw [int_eq]
    · unfold Format.order
      rw [h1, read_zero]
      simp only [Datum.order, signed]
      simp only [if_true, Bool.false_eq_true, if_false, Nat.zero_shiftLeft]
      generalize m <<< (i - min i (-1074)).toNat = x
      by_cases hx : x = 0
      · subst hx
        exact .inr rfl
      · left
        rw [int_lt (by omega)]
  · refine .inr ⟨?_, .inl ?_⟩
    · unfold Format.order
      rw [h1]
      rfl
    · unfold Format.order
      rw [h1, read_zero]
      rfl
  · left
    unfold Format.order
    rw [h1, read_zero]
    exact ⟨rfl, rfl⟩

/-- What is above a number above nought is above nought. -/
theorem order_lt {a b : Nat} (h0 : 0 < a) (ha : a ≤ infR) (hb : b < 18446744073709551616) (h : double.order a b = some .lt) : a < b ∧ b ≤ infR := by
  rcases read_any b hb with h1 | ⟨n, j, h1⟩ | h1 | ⟨s, t, h1⟩
  · rw [order_pos ha h1] at h
    exact ⟨Nat.compare_eq_lt.1 (by simpa using h), h1⟩
  all_goals
    exfalso
    unfold Format.order at h
    rw [h1] at h
    by_cases hi : a = infR
    · subst hi
      rw [read_inf] at h
      simp [Datum.order] at h
      try (revert h; decide)
    · obtain ⟨m, i, hm, _⟩ := read_fin (show a < infR by omega)
      rw [hm] at h
      simp only [Datum.order, signed, Bool.false_eq_true, if_false, if_true] at h
      first
        | (cases h; done)
        | (generalize m <<< (-1074 + (i : Int) - min (-1074 + (i : Int)) j).toNat = x at h
           generalize n <<< (j - min (-1074 + (i : Int)) j).toNat = y at h
           by_cases hxy : (x : Int) = -(y : Int)
           · rw [hxy, int_eq] at h; cases h
           · rw [int_gt (by omega)] at h; cases h)

theorem costB_down {a b : Nat} (hb : b < 18446744073709551616) (h : double.order a b = some .lt) : costB b ≤ costB a := by
  by_cases ha : 0 < a ∧ a ≤ infR
  · obtain ⟨h1, h2⟩ := order_lt ha.1 ha.2 hb h
    unfold costB
    rw [if_pos ha, if_pos ⟨by omega, h2⟩]
    exact costR_down ha.1 (by omega) h2
  · rw [show costB a = 16777216 by unfold costB; rw [if_neg ha]]
    exact (costB_in b).2
theorem costB_low {a b : Nat} (h : a ≤ b) (hb : b ≤ infR) : costB b ≤ costB a := by
  by_cases ha : 0 < a
  · unfold costB
    rw [if_pos (show 0 < b ∧ b ≤ infR from ⟨by omega, hb⟩), if_pos (show 0 < a ∧ a ≤ infR from ⟨ha, by omega⟩)]
    exact costR_down ha h hb
  · rw [show costB a = 16777216 by unfold costB; rw [if_neg (by omega)]]
    exact (costB_in b).2
theorem cost_ten : costB 4621819117588971520 = 2000000 := by decide +kernel
theorem cost_nan : costB 9221120237041090561 = 16777216 := by decide +kernel
theorem cost_inf : costB infR = 1 := by decide +kernel
theorem cost_least : costB 1 = 16777216 := by decide +kernel
theorem cost_one : costB oneR = 16777216 := by decide +kernel
theorem cost_top : costB topR = 1 := by decide +kernel

/-- The speed that is told of a cost. -/
structure Spd (c : Int) (k : Nat) : Prop where
  le : k ≤ infR
  here : c ≤ costB k
  next : k = infR ∨ costB (k + 1) < c

abbrev tinyR : Nat := 4472406533629990549
/-- A speed from 1 up to 2^24, made greater as the statement has it, is greater, in floats. -/
theorem greater {k : Nat} (h1 : oneR ≤ k) (h2 : k < topR) : ∃ p t, double.mul k upR = some p ∧ double.add p tinyR = some t ∧ k + 1 ≤ t ∧ t ≤ infR := by
  have c1 : (0 : Nat) < oneR := by decide
  have c2 : topR + 1 < infR := by decide
  obtain ⟨R, hm, hR⟩ := mul_fin (show 0 < k by omega) (show k < infR by omega)
  -- the product is the next float, or above
  have hR1 : k + 1 ≤ R := by
    rw [hR (k + 1) (by omega)]
    left
    obtain ⟨e, m, hke, hm53, he⟩ := parts k
    have hm52 : 2 ^ 52 ≤ m := by
      rcases he with rfl | h
      · have : oneR = 4607182418800017408 := rfl
        omega
      · exact h
    have hv : val k = m * 2 ^ e := by rw [hke]; exact val_of e m (by omega) he
    have hv' : val (k + 1) = (m + 1) * 2 ^ e := by rw [hke, Nat.add_assoc]; exact val_of e (m + 1) (by omega) (by omega)
    rw [show k + 1 - 1 = k by omega, hv, hv']
    have hE : 0 < 2 ^ e := Nat.two_pow_pos e
    generalize 2 ^ e = E at *
    have h3 : (m * E + (m + 1) * E) * 2 ^ 52 = ((2 * m + 1) * 2 ^ 52) * E := by grind
    have h4 : 2 * (m * E * 4503600077730459) = (2 * m * 4503600077730459) * E := by grind
    rw [h3, h4]
    exact Nat.mul_lt_mul_of_pos_right (by omega) hE
  have hp : k + 1 ≤ min R infR := by omega
  have hpi : min R infR ≤ infR := Nat.min_le_right ..
  generalize min R infR = p at *
  by_cases hi : p = infR
  · subst hi
    exact ⟨_, infR, hm, by decide +kernel, hp, Nat.le_refl _⟩
  · obtain ⟨R', ha, hR'⟩ := add_fin (show p < infR by omega) (show tinyR < infR by decide)
    have h5 : p ≤ R' := (rnd_self p 1 (by omega)).le hR' (by omega) (by omega) (by omega)
    exact ⟨_, _, hm, ha, by omega, Nat.min_le_right ..⟩
end Go.Proofs.Ytglgkgpflindjaa.Fl
