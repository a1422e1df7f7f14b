/- 20000000 by a double; a double times 1.0000001; rounded down; as an integer. Plain; no condition. -/
import Derived.Test.YtglgkgpflindjaaFlOps
namespace Go.Proofs.Ytglgkgpflindjaa.Fl
open Ieee

/-- The places below the point. -/
def U : Nat := 1074
theorem U_eq : U = 1074 := rfl
attribute [irreducible] U

abbrev refR : Nat := 4716133919349538816
theorem read_ref : double.read refR = .number false 5368709120000000 (-28) := by decide +kernel

/-- 20000000 by a number above nought. -/
theorem div_fin {r : Nat} (h0 : 0 < r) (hr : r < infR) : ∃ R, double.div refR r = some (min R infR) ∧ Rnd R (20000000 * 2 ^ (U + U)) (val r) := by
  obtain ⟨m, i, hm, hri, hm53, hi, hvm⟩ := read_fin hr
  have hm0 : m ≠ 0 := by
    intro h
    subst h
    omega
  have hv0 : 0 < val r := by
    have := val_lt h0
    omega
  unfold Format.div
  rw [read_ref, hm]
  simp only [Datum.quotient, if_neg hm0, Option.map_some, Format.write, Nat.shiftLeft_eq]
  rw [show Nat.log2 5368709120000000 = 52 by decide +kernel, show double.fractionBits + 2 = 54 from rfl, show 54 + m.log2 - 52 = m.log2 + 2 by omega]
  have hlo := Nat.log2_self_le hm0
  have hhi := Nat.lt_log2_self (n := m)
  generalize m.log2 = L at *
  obtain ⟨D, hD⟩ : ∃ D, D = 5368709120000000 * 2 ^ (L + 2) := ⟨_, rfl⟩
  rw [← hD]
  have hdm := Nat.div_add_mod D m
  have hml := Nat.mod_lt D (show 0 < m by omega)
  have hq : 2 ^ 53 ≤ D / m := by
    rw [Nat.le_div_iff_mul_le (by omega), hD]
    have : 2 ^ 53 * m ≤ 2 ^ 53 * 2 ^ (L + 1) := Nat.mul_le_mul_left _ (by omega)
    rw [show L + 2 = L + 1 + 1 by omega, Nat.pow_succ 2 (L + 1)]
    omega
  generalize D / m = q at *
  generalize D % m = rest at *
  obtain ⟨Q, hQ⟩ : ∃ Q, Q = 2 * q + (rest != 0).toNat := ⟨_, rfl⟩
  rw [← hQ]
  obtain ⟨p, hp⟩ : ∃ p : Int, p = -28 - (-1074 + (i : Int)) - ((L + 2 : Nat) : Int) - 1 := ⟨_, rfl⟩
  rw [← hp]
  obtain ⟨a, ha⟩ : ∃ a, a = (p + 1074).toNat := ⟨_, rfl⟩
  obtain ⟨b, hb⟩ : ∃ b, b = (-(p + 1074)).toNat := ⟨_, rfl⟩
  have hC : 20000000 * 2 ^ (U + U) * 2 ^ b = 2 * D * (2 ^ a * 2 ^ i) := by
    have hU := U_eq
    rw [show 2 ^ (U + U) = 2 ^ 28 * 2 ^ (U + U - 28) by rw [← Nat.pow_add, show 28 + (U + U - 28) = U + U by omega], ← Nat.mul_assoc, show 20000000 * 2 ^ 28 = 5368709120000000 by decide, hD]
    have : 2 ^ (U + U - 28) * 2 ^ b = 2 * 2 ^ (L + 2) * (2 ^ a * 2 ^ i) := by
      rw [← Nat.pow_add, ← Nat.pow_add, show 2 * 2 ^ (L + 2) = 2 ^ (L + 3) by rw [Nat.pow_succ 2 (L + 2)]; omega, ← Nat.pow_add]
      congr 1
      omega
    rw [Nat.mul_assoc, this]
    generalize 2 ^ (L + 2) = x
    generalize 2 ^ a * 2 ^ i = y
    grind
  have hnear : ∃ R, double.nearest false Q p = double.word false (min R double.infRung) ∧ Rnd R (20000000 * 2 ^ (U + U)) (val r) := by
    refine near false Q p _ _ (by omega) hv0 ?_
    rw [← ha, ← hb, hC, hvm]
    have hs : 0 < 2 ^ a * 2 ^ i := Nat.mul_pos (Nat.two_pow_pos a) (Nat.two_pow_pos i)
    have e1 : ∀ x, x * 2 ^ a * (m * 2 ^ i) = x * m * (2 ^ a * 2 ^ i) := fun x => by generalize 2 ^ a = u; generalize 2 ^ i = v; grind
    rw [e1, e1, e1]
    generalize 2 ^ a * 2 ^ i = S at *
    by_cases hz : rest = 0
    · left
      subst hz
      rw [hQ, ← hdm]
      simp
      congr 1
      grind
    · right
      have hQ' : Q = 2 * q + 1 := by rw [hQ]; simp [hz]
      refine ⟨?_, by omega, ?_, ?_⟩
      · exact (Nat.le_log2 (by omega)).2 (by omega)
      · refine Nat.mul_lt_mul_of_pos_right ?_ hs
        rw [hQ', show 2 * q + 1 - 1 = 2 * q by omega, ← hdm, show 2 * q * m = 2 * (m * q) by grind]
        omega
      · refine Nat.mul_lt_mul_of_pos_right ?_ hs
        rw [hQ', ← hdm, show (2 * q + 1 + 1) * m = 2 * (m * q) + 2 * m by grind]
        omega
  obtain ⟨R, h1, h2⟩ := hnear
  refine ⟨R, ?_, h2⟩
  show some (double.nearest false Q p) = _
  rw [h1, inf_eq, word_pos]

abbrev upR : Nat := 4607182419250377371
theorem read_up : double.read upR = .number false 4503600077730459 (-52) := by decide +kernel

/-- A number above nought times 1.0000001, as that is read. -/
theorem mul_fin {r : Nat} (h0 : 0 < r) (hr : r < infR) : ∃ R, double.mul r upR = some (min R infR) ∧ Rnd R (val r * 4503600077730459) (2 ^ 52) := by
  obtain ⟨m, i, hm, hri, hm53, hi, hvm⟩ := read_fin hr
  have hm0 : m ≠ 0 := by
    intro h
    subst h
    omega
  unfold Format.mul
  rw [read_up, hm]
  simp only [Datum.product, Option.map_some, Format.write]
  obtain ⟨p, hp⟩ : ∃ p : Int, p = -1074 + (i : Int) + -52 := ⟨_, rfl⟩
  rw [← hp]
  obtain ⟨a, ha⟩ : ∃ a, a = (p + 1074).toNat := ⟨_, rfl⟩
  obtain ⟨b, hb⟩ : ∃ b, b = (-(p + 1074)).toNat := ⟨_, rfl⟩
  obtain ⟨R, h1, h2⟩ := near false (m * 4503600077730459) p (val r * 4503600077730459) (2 ^ 52) (by omega) (by omega) (.inl (by
    rw [← ha, ← hb, hvm]
    have : 2 ^ a * 2 ^ 52 = 2 ^ i * 2 ^ b := by
      rw [← Nat.pow_add, ← Nat.pow_add]
      congr 1
      omega
    generalize 2 ^ a = A at *
    generalize 2 ^ b = B at *
    generalize 2 ^ i = I at *
    grind))
  refine ⟨R, ?_, h2⟩
  show some (double.nearest (false ^^ false) _ p) = _
  rw [show (false ^^ false) = false from rfl, h1, inf_eq, word_pos]

theorem cut_low (neg : Bool) (way : Toward) (hw : way = .zero ∨ way = .down ∧ neg = false) (n d : Nat) : way.cut neg n d = n / 2 ^ d := by
  have h : way.cut neg n d = n / (1 <<< min d (n.log2 + 2)) := by
    rcases hw with rfl | ⟨rfl, rfl⟩ <;> simp [Toward.cut]
  rw [h]
  simp only [Nat.shiftLeft_eq, Nat.one_mul]
  by_cases hd : d ≤ n.log2 + 2
  · rw [Nat.min_eq_left hd]
  · rw [Nat.min_eq_right (by omega)]
    have h1 : n < 2 ^ (n.log2 + 2) := by
      have := Nat.lt_log2_self (n := n)
      rw [Nat.pow_succ]
      omega
    have h2 : 2 ^ (n.log2 + 2) < 2 ^ d := Nat.pow_lt_pow_right (by omega) (by omega)
    rw [Nat.div_eq_of_lt h1, Nat.div_eq_of_lt (by omega)]

theorem low_whole (m i : Nat) : m <<< (-1074 + (i : Int)).toNat / 2 ^ (-(-1074 + (i : Int))).toNat = m * 2 ^ i / 2 ^ U := by
  rw [Nat.shiftLeft_eq]
  have hU := U_eq
  by_cases h : U ≤ i
  · rw [show (-1074 + (i : Int)).toNat = i - U by omega, show (-(-1074 + (i : Int))).toNat = 0 by omega, Nat.pow_zero, Nat.div_one]
    have e : m * 2 ^ i = m * 2 ^ (i - U) * 2 ^ U := by rw [Nat.mul_assoc, ← Nat.pow_add, show i - U + U = i by omega]
    rw [e, Nat.mul_div_cancel _ (Nat.two_pow_pos U)]
  · rw [show (-1074 + (i : Int)).toNat = 0 by omega, show (-(-1074 + (i : Int))).toNat = U - i by omega, Nat.pow_zero, Nat.mul_one]
    have e : 2 ^ U = 2 ^ (U - i) * 2 ^ i := by rw [← Nat.pow_add, show U - i + i = U by omega]
    rw [e, Nat.mul_div_mul_right _ _ (Nat.two_pow_pos i)]

/-- Rounded down to a whole number. -/
theorem floor_fin {r : Nat} (hr : r < infR) : ∃ R, double.write ((double.read r).integral .down) = min R infR ∧ Rnd R (val r / 2 ^ U * 2 ^ U) 1 := by
  obtain ⟨m, i, hm, _, _, _, hvm⟩ := read_fin hr
  rw [hm, hvm]
  simp only [Datum.integral]
  rw [cut_low false .down (.inr ⟨rfl, rfl⟩), low_whole]
  generalize m * 2 ^ i / 2 ^ U = f
  by_cases hf : f = 0
  · subst hf
    refine ⟨0, ?_, ?_⟩
    · simp [Format.write, Format.nearest, word_pos]
    · have := rnd_self 0 1 (by omega)
      simpa [val] using this
  · obtain ⟨R, h1, h2⟩ := near false f 0 (f * 2 ^ U) 1 hf (by omega) (.inl (by
      rw [show ((0 : Int) + 1074).toNat = U by rw [U_eq]; rfl, show (-((0 : Int) + 1074)).toNat = 0 by omega, Nat.pow_zero]))
    refine ⟨R, ?_, h2⟩
    show double.nearest false f 0 = _
    rw [h1, inf_eq, word_pos]

/-- A number as an integer, towards nought. -/
theorem int_fin {r : Nat} (hr : r < infR) : (double.read r).toInt .zero = some ((val r / 2 ^ U : Nat) : Int) := by
  obtain ⟨m, i, hm, _, _, _, hvm⟩ := read_fin hr
  rw [hm, hvm]
  simp only [Datum.toInt, Datum.integral]
  rw [cut_low false .zero (.inl rfl), low_whole]
  simp [signed]
end Go.Proofs.Ytglgkgpflindjaa.Fl
