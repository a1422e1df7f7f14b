/- Doubles that are not below nought: how they are read, ordered, added. Plain; no condition. -/
import Derived.Test.YtglgkgpflindjaaFlNear
namespace Go.Proofs.Ytglgkgpflindjaa.Fl
open Ieee

theorem int_lt {a b : Int} (h : a < b) : compare a b = .lt := by
  show compareOfLessAndEq a b = _
  unfold compareOfLessAndEq
  rw [if_pos h]
theorem int_eq (a : Int) : compare a a = .eq := by
  show compareOfLessAndEq a a = _
  unfold compareOfLessAndEq
  rw [if_neg (by omega), if_pos rfl]
theorem int_gt {a b : Int} (h : b < a) : compare a b = .gt := by
  show compareOfLessAndEq a b = _
  unfold compareOfLessAndEq
  rw [if_neg (by omega), if_neg (by omega)]

abbrev infR : Nat := 9218868437227405312
theorem inf_eq : double.infRung = infR := by decide +kernel
theorem sw_eq : double.signWeight = 9223372036854775808 := by decide +kernel
theorem word_pos (r : Nat) : double.word false r = r := rfl

theorem read_fin {r : Nat} (h : r < infR) : ∃ m e : Nat, double.read r = .number false m (-1074 + (e : Nat)) ∧ r = e * 2 ^ 52 + m ∧ m < 2 ^ 53 ∧ (e = 0 ∨ 2 ^ 52 ≤ m) ∧ val r = m * 2 ^ e := by
  unfold infR at h
  have hn : (r / double.signWeight % 2 == 1) = false := by rw [sw_eq, Nat.div_eq_of_lt (by omega)]; rfl
  have hr : r % double.signWeight = r := by rw [sw_eq]; exact Nat.mod_eq_of_lt (by omega)
  have hb : double.binade = 2 ^ 52 := rfl
  have hl : double.leastPlace = -1074 := by decide
  by_cases h1 : r < 2 ^ 52
  · refine ⟨r, 0, ?_, by omega, by omega, .inl rfl, ?_⟩
    · unfold Format.read
      rw [hn, hr, hb, hl]
      simp only
      rw [if_pos h1]
      rfl
    · have := val_of 0 r (by omega) (.inl rfl)
      simpa using this
  · refine ⟨2 ^ 52 + r % 2 ^ 52, r / 2 ^ 52 - 1, ?_, by omega, by omega, .inr (by omega), ?_⟩
    · unfold Format.read
      rw [hn, hr, hb, hl, inf_eq]
      simp only
      rw [if_neg h1, if_pos (by unfold infR; omega)]
    · unfold val
      rw [if_neg h1]
theorem read_inf : double.read infR = .infinity false := by decide +kernel

/-- Two rungs are ordered as they stand. -/
theorem order_pos {r s : Nat} (hr : r ≤ infR) (hs : s ≤ infR) : double.order r s = some (compare r s) := by
  unfold Format.order
  by_cases h1 : r = infR
  · by_cases h2 : s = infR
    · subst h1; subst h2; rw [read_inf]; simp [Datum.order]
    · obtain ⟨n, j, hn, _⟩ := read_fin (show s < infR by omega)
      subst h1
      rw [read_inf, hn]
      simp [Datum.order]
      exact (Nat.compare_eq_gt.2 (by omega)).symm
  · obtain ⟨m, i, hm, _, _, _, hvm⟩ := read_fin (show r < infR by omega)
    by_cases h2 : s = infR
    · subst h2
      rw [read_inf, hm]
      simp [Datum.order]
      exact (Nat.compare_eq_lt.2 (by omega)).symm
    · obtain ⟨n, j, hn, _, _, _, hvn⟩ := read_fin (show s < infR by omega)
      rw [hm, hn]
      simp only [Datum.order, signed, Nat.shiftLeft_eq, Option.some.injEq, Bool.false_eq_true, if_false]
      obtain ⟨b, hb⟩ : ∃ b, b = min i j := ⟨_, rfl⟩
      rw [show (-1074 + (i : Int) - min (-1074 + (i : Int)) (-1074 + (j : Int))).toNat = i - b by omega, show (-1074 + (j : Int) - min (-1074 + (i : Int)) (-1074 + (j : Int))).toNat = j - b by omega]
      have e1 : m * 2 ^ (i - b) * 2 ^ b = val r := by rw [hvm, Nat.mul_assoc, ← Nat.pow_add]; congr 2; omega
      have e2 : n * 2 ^ (j - b) * 2 ^ b = val s := by rw [hvn, Nat.mul_assoc, ← Nat.pow_add]; congr 2; omega
      have hp : 0 < 2 ^ b := Nat.two_pow_pos b
      generalize m * 2 ^ (i - b) = x at *
      generalize n * 2 ^ (j - b) = y at *
      rcases Nat.lt_trichotomy r s with h | h | h
      · have := val_lt h
        rw [← e1, ← e2] at this
        have := Nat.lt_of_mul_lt_mul_right this
        rw [Nat.compare_eq_lt.2 h]
        exact int_lt (by omega)
      · subst h
        rw [← e2] at e1
        have := Nat.eq_of_mul_eq_mul_right hp e1
        subst this
        rw [Nat.compare_eq_eq.2 rfl]
        exact int_eq _
      · have := val_lt h
        rw [← e1, ← e2] at this
        have := Nat.lt_of_mul_lt_mul_right this
        rw [Nat.compare_eq_gt.2 h]
        exact int_gt (by omega)

/-- A sum of two that aren't below nought. -/
theorem add_fin {r s : Nat} (hr : r < infR) (hs : s < infR) : ∃ R, double.add r s = some (min R infR) ∧ Rnd R (val r + val s) 1 := by
  obtain ⟨m, i, hm, _, _, _, hvm⟩ := read_fin hr
  obtain ⟨n, j, hn, _, _, _, hvn⟩ := read_fin hs
  unfold Format.add
  rw [hm, hn]
  simp only [Datum.sum, signed, Nat.shiftLeft_eq, Bool.false_eq_true, if_false, Option.map_some]
  obtain ⟨b, hb⟩ : ∃ b, b = min i j := ⟨_, rfl⟩
  rw [show (-1074 + (i : Int) - min (-1074 + (i : Int)) (-1074 + (j : Int))).toNat = i - b by omega, show (-1074 + (j : Int) - min (-1074 + (i : Int)) (-1074 + (j : Int))).toNat = j - b by omega, show min (-1074 + (i : Int)) (-1074 + (j : Int)) = -1074 + (b : Nat) by omega]
  rw [show ((m * 2 ^ (i - b) : Nat) : Int) + ((n * 2 ^ (j - b) : Nat) : Int) = ((m * 2 ^ (i - b) + n * 2 ^ (j - b) : Nat) : Int) by omega]
  have e : (m * 2 ^ (i - b) + n * 2 ^ (j - b)) * 2 ^ b = val r + val s := by
    rw [Nat.add_mul, Nat.mul_assoc, Nat.mul_assoc, ← Nat.pow_add, ← Nat.pow_add, show i - b + b = i by omega, show j - b + b = j by omega, ← hvm, ← hvn]
  generalize m * 2 ^ (i - b) + n * 2 ^ (j - b) = t at *
  by_cases ht : t = 0
  · subst ht
    refine ⟨0, ?_, ?_⟩
    · simp [Format.write, Format.nearest, word_pos]
    · have := rnd_self 0 1 (by omega)
      rw [← e]
      simpa [val] using this
  · have hs : (if ((t : Nat) : Int) = 0 then false && false else decide (((t : Nat) : Int) < 0)) = false := by
      rw [if_neg (by omega)]
      simp
    rw [hs]
    obtain ⟨R, h1, h2⟩ := near false t (-1074 + (b : Nat)) (val r + val s) 1 ht (by omega) (.inl (by rw [show ((-1074 + (b : Nat) : Int) + 1074).toNat = b by omega, show (-((-1074 + (b : Nat) : Int) + 1074)).toNat = 0 by omega, e]))
    refine ⟨R, ?_, h2⟩
    simp only [Format.write, Int.natAbs_natCast]
    rw [h1, inf_eq, word_pos]
end Go.Proofs.Ytglgkgpflindjaa.Fl
