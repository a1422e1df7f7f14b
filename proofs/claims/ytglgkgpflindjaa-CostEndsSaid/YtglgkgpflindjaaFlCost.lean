/- The cost of a speed as a function of its word: it never rises with the speed; the two ways to it are one. Plain; no condition. -/
import Derived.Test.YtglgkgpflindjaaFlDiv
namespace Go.Proofs.Ytglgkgpflindjaa.Fl
open Ieee

abbrev halfR : Nat := 4602678819172646912
abbrev oneR : Nat := 4607182418800017408
abbrev twoR : Nat := 4611686018427387904
abbrev topR : Nat := 4715268809856909312

theorem val_le_iff {i j : Nat} : val i ≤ val j ↔ i ≤ j := by
  constructor
  · intro h
    by_cases hij : i ≤ j
    · exact hij
    · have := val_lt (show j < i by omega)
      omega
  · exact val_le

/-- The rung of a whole number. -/
theorem val_whole (f L : Nat) (h1 : 2 ^ L ≤ f) (h2 : f < 2 ^ (L + 1)) (hL : L ≤ 52) : val ((1022 + L) * 2 ^ 52 + f * 2 ^ (52 - L)) = f * 2 ^ U := by
  have hU := U_eq
  have e1 : 2 ^ 52 = 2 ^ L * 2 ^ (52 - L) := by rw [← Nat.pow_add, show L + (52 - L) = 52 by omega]
  have e2 : 2 ^ 53 = 2 ^ (L + 1) * 2 ^ (52 - L) := by rw [← Nat.pow_add, show L + 1 + (52 - L) = 53 by omega]
  have g1 : 2 ^ 52 ≤ f * 2 ^ (52 - L) := by rw [e1]; exact Nat.mul_le_mul_right _ h1
  have g2 : f * 2 ^ (52 - L) ≤ 2 ^ 53 := by rw [e2]; exact Nat.mul_le_mul_right _ (by omega)
  rw [val_of (1022 + L) (f * 2 ^ (52 - L)) g2 (.inr g1), Nat.mul_assoc, ← Nat.pow_add, show 52 - L + (1022 + L) = U by omega]
theorem val_one : val oneR = 1 * 2 ^ U := val_whole 1 0 (by decide) (by decide) (by decide)
theorem val_two : val twoR = 2 * 2 ^ U := val_whole 2 1 (by decide) (by decide) (by decide)
theorem val_top : val topR = 16777216 * 2 ^ U := val_whole 16777216 24 (by decide) (by decide) (by decide)
theorem le_whole {k f a : Nat} (h : val k = f * 2 ^ U) : k ≤ a ↔ f ≤ val a / 2 ^ U := by
  rw [Nat.le_div_iff_mul_le (Nat.two_pow_pos U), ← h, val_le_iff]

def clampC (f : Nat) : Nat := max 1 (min f 16777216)
def quoR (r : Nat) : Nat := (double.div refR r).getD 0
def addR (r : Nat) : Nat := (double.add (quoR r) halfR).getD 0
def costR (r : Nat) : Nat := clampC (val (addR r) / 2 ^ U)
/-- The cost of a speed, by its word. -/
def costB (b : Nat) : Nat := if 0 < b ∧ b ≤ infR then costR b else 16777216

theorem clampC_mono {f g : Nat} (h : f ≤ g) : clampC f ≤ clampC g := by unfold clampC; omega
theorem clampC_in (f : Nat) : 1 ≤ clampC f ∧ clampC f ≤ 16777216 := by unfold clampC; omega
theorem costB_in (b : Nat) : 1 ≤ costB b ∧ costB b ≤ 16777216 := by
  unfold costB
  split
  · exact clampC_in _
  · omega

theorem quo_inf : double.div refR infR = some 0 := by decide +kernel
theorem add_inf : double.add infR halfR = some infR := by decide +kernel

theorem quo_some {r : Nat} (h0 : 0 < r) (hr : r ≤ infR) : double.div refR r = some (quoR r) ∧ quoR r ≤ infR := by
  unfold quoR
  by_cases h : r = infR
  · subst h; rw [quo_inf]; exact ⟨rfl, by simp⟩
  · obtain ⟨R, h1, _⟩ := div_fin h0 (show r < infR by omega)
    rw [h1]
    exact ⟨rfl, Nat.min_le_right ..⟩
theorem quo_down {r r' : Nat} (h0 : 0 < r) (h : r ≤ r') (hr : r' ≤ infR) : quoR r' ≤ quoR r := by
  by_cases hi : r' = infR
  · subst hi
    rw [show quoR infR = 0 by unfold quoR; rw [quo_inf]; rfl]
    omega
  · obtain ⟨R, h1, h2⟩ := div_fin h0 (show r < infR by omega)
    obtain ⟨R', h1', h2'⟩ := div_fin (show 0 < r' by omega) (show r' < infR by omega)
    unfold quoR
    rw [h1, h1']
    have p0 : val 0 < val r := val_lt h0
    have p1 := val_le h
    have hle : R' ≤ R := h2'.le h2 (by omega) (by omega) (Nat.mul_le_mul_left _ p1)
    show min R' infR ≤ min R infR
    omega
theorem add_some {r : Nat} (h0 : 0 < r) (hr : r ≤ infR) : double.add (quoR r) halfR = some (addR r) ∧ addR r ≤ infR := by
  have hq := (quo_some h0 hr).2
  unfold addR
  by_cases h : quoR r = infR
  · rw [h, add_inf]; exact ⟨rfl, by simp⟩
  · obtain ⟨R, h1, _⟩ := add_fin (show quoR r < infR by omega) (show halfR < infR by decide)
    rw [h1]
    exact ⟨rfl, Nat.min_le_right ..⟩
theorem add_down {r r' : Nat} (h0 : 0 < r) (h : r ≤ r') (hr : r' ≤ infR) : addR r' ≤ addR r := by
  have hq := quo_down h0 h hr
  have hm := (quo_some h0 (show r ≤ infR by omega)).2
  have hle := (add_some (show 0 < r' by omega) hr).2
  by_cases hi : quoR r = infR
  · rw [show addR r = infR by unfold addR; rw [hi, add_inf]; rfl]
    exact hle
  · obtain ⟨R, h1, h2⟩ := add_fin (show quoR r < infR by omega) (show halfR < infR by decide)
    obtain ⟨R', h1', h2'⟩ := add_fin (show quoR r' < infR by omega) (show halfR < infR by decide)
    unfold addR
    rw [h1, h1']
    have p1 := val_le hq
    have hle : R' ≤ R := h2'.le h2 (by omega) (by omega) (by omega)
    show min R' infR ≤ min R infR
    omega
theorem costR_down {r r' : Nat} (h0 : 0 < r) (h : r ≤ r') (hr : r' ≤ infR) : costR r' ≤ costR r :=
  clampC_mono (Nat.div_le_div_right (val_le (add_down h0 h hr)))

/-- What is rounded down, and bounded from both sides: the code's way. -/
theorem bounded {a : Nat} (ha : a ≤ infR) : ∃ x, double.write ((double.read a).integral .down) = x ∧ x ≤ infR ∧
    ∃ z, z = (if (if x < oneR then oneR else x) ≤ topR then (if x < oneR then oneR else x) else topR) ∧ z ≤ topR ∧ val z / 2 ^ U = clampC (val a / 2 ^ U) := by
  have hp : 0 < 2 ^ U := Nat.two_pow_pos U
  have c1 : oneR < topR := by decide
  have c2 : topR < infR := by decide
  by_cases h : a = infR
  · subst h
    refine ⟨infR, by decide +kernel, Nat.le_refl _, topR, by decide, Nat.le_refl _, ?_⟩
    have h2 : 16777216 ≤ val infR / 2 ^ U := (le_whole val_top).1 (by decide)
    rw [val_top, Nat.mul_div_cancel _ hp]
    unfold clampC
    omega
  · obtain ⟨R, h1, h2⟩ := floor_fin (show a < infR by omega)
    refine ⟨_, h1, Nat.min_le_right .., _, rfl, ?_, ?_⟩
    · generalize (if min R infR < oneR then oneR else min R infR) = y
      split
      · assumption
      · exact Nat.le_refl _
    · generalize val a / 2 ^ U = f at *
      by_cases hf0 : f = 0
      · subst hf0
        have e : R = 0 := h2.eq (rnd_self 0 1 (by omega)) (by omega) (by omega) (by simp [val])
        subst e
        rw [show (if (if min 0 infR < oneR then oneR else min 0 infR) ≤ topR then (if min 0 infR < oneR then oneR else min 0 infR) else topR) = oneR by decide, val_one, Nat.mul_div_cancel _ hp]
        rfl
      · by_cases hf : f ≤ 16777216
        · have hL1 := Nat.log2_self_le hf0
          have hL2 := Nat.lt_log2_self (n := f)
          have hL : f.log2 ≤ 52 := by
            by_cases hc : f.log2 ≤ 52
            · exact hc
            · have : 2 ^ 53 ≤ 2 ^ f.log2 := Nat.pow_le_pow_right (by omega) (by omega)
              omega
          have hv := val_whole f f.log2 hL1 hL2 hL
          generalize (1022 + f.log2) * 2 ^ 52 + f * 2 ^ (52 - f.log2) = k at hv
          have e : R = k := h2.eq (rnd_self k 1 (by omega)) (by omega) (by omega) (by rw [hv]; omega)
          subst e
          have g1 : oneR ≤ R := (val_le_iff (i := oneR)).1 (by rw [hv, val_one]; exact Nat.mul_le_mul_right _ (by omega))
          have g2 : R ≤ topR := (val_le_iff (j := topR)).1 (by rw [hv, val_top]; exact Nat.mul_le_mul_right _ hf)
          rw [show min R infR = R by omega, if_neg (show ¬ R < oneR by omega), if_pos g2, hv, Nat.mul_div_cancel _ hp]
          unfold clampC
          omega
        · have hR : topR ≤ R := (rnd_self topR 1 (by omega)).le h2 (by omega) (by omega) (by
            rw [val_top]
            have := Nat.mul_le_mul_right (2 ^ U) (show 16777216 ≤ f by omega)
            omega)
          rw [if_neg (show ¬ min R infR < oneR by omega)]
          have hz : (if min R infR ≤ topR then min R infR else topR) = topR := by split <;> omega
          rw [hz, val_top, Nat.mul_div_cancel _ hp]
          unfold clampC
          omega

/-- The document's way: by cases. -/
theorem by_cases_ {a : Nat} (h : ¬ topR ≤ a) : (a < twoR → clampC (val a / 2 ^ U) = 1) ∧ (¬ a < twoR → clampC (val a / 2 ^ U) = val a / 2 ^ U) := by
  have h1 := le_whole (a := a) val_top
  have h2 := le_whole (a := a) val_two
  generalize val a / 2 ^ U = f at *
  unfold clampC
  constructor
  · intro h3
    have : ¬ 2 ≤ f := fun h4 => by have := h2.2 h4; omega
    omega
  · intro h3
    have := h2.1 (by omega)
    have : ¬ 16777216 ≤ f := fun h4 => by have := h1.2 h4; omega
    omega
theorem by_top {a : Nat} (h : topR ≤ a) : clampC (val a / 2 ^ U) = 16777216 := by
  have h1 := (le_whole (a := a) val_top).1 h
  generalize val a / 2 ^ U = f at *
  unfold clampC
  omega
end Go.Proofs.Ytglgkgpflindjaa.Fl
