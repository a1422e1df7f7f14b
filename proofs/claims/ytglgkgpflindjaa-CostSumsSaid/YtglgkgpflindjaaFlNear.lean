/- The word that a number is written as is that of the rung to which it is rounded. Plain; no condition. -/
import Derived.Test.YtglgkgpflindjaaFlRung
namespace Go.Proofs.Ytglgkgpflindjaa.Fl
open Ieee

theorem cut_spec (neg : Bool) (n d : Nat) : ∃ m, Toward.even.cut neg n d = m ∧ 2 * m * 2 ^ d ≤ 2 * n + 2 ^ d ∧ (2 * m * 2 ^ d = 2 * n + 2 ^ d → m % 2 = 0) ∧ 2 * n ≤ (2 * m + 1) * 2 ^ d ∧ (2 * n = (2 * m + 1) * 2 ^ d → m % 2 = 0) := by
  refine ⟨_, rfl, ?_⟩
  unfold Toward.cut
  simp only [Nat.shiftLeft_eq, Nat.one_mul]
  by_cases hd : d ≤ n.log2 + 2
  · rw [Nat.min_eq_left hd]
    have hg : 0 < 2 ^ d := Nat.two_pow_pos d
    generalize 2 ^ d = g at *
    have hn := Nat.div_add_mod n g
    have hr := Nat.mod_lt n hg
    generalize n / g = low at *
    generalize n % g = rest at *
    subst hn
    have e1 : 2 * (g * low + rest) = 2 * low * g + 2 * rest := by grind
    rw [e1]
    by_cases h1 : g < 2 * rest
    · have e2 : 2 * (low + 1) * g = 2 * low * g + 2 * g := by grind
      have e3 : (2 * (low + 1) + 1) * g = 2 * low * g + 3 * g := by grind
      simp [h1, e2, e3]
      omega
    · have e3 : (2 * low + 1) * g = 2 * low * g + g := by grind
      by_cases h2 : g = 2 * rest ∧ low % 2 = 1
      · have e2 : 2 * (low + 1) * g = 2 * low * g + 2 * g := by grind
        have e4 : (2 * (low + 1) + 1) * g = 2 * low * g + 3 * g := by grind
        have hb : (decide (g < 2 * rest) || g == 2 * rest && low % 2 == 1) = true := by simp [h2]
        rw [hb]
        simp [e2, e4]
        omega
      · have hb : (decide (g < 2 * rest) || g == 2 * rest && low % 2 == 1) = false := by
          simp; omega
        rw [hb]
        simp [e3]
        omega
  · rw [Nat.min_eq_right (by omega)]
    have hlt : 2 * n < 2 ^ (n.log2 + 2) := by
      have := Nat.lt_log2_self (n := n)
      rw [Nat.pow_succ]
      omega
    have hgd : 2 ^ (n.log2 + 2) < 2 ^ d := Nat.pow_lt_pow_right (by omega) (by omega)
    generalize 2 ^ (n.log2 + 2) = g at *
    rw [Nat.div_eq_of_lt (by omega), Nat.mod_eq_of_lt (by omega)]
    have hb : (decide (g < 2 * n) || g == 2 * n && 0 % 2 == 1) = false := by simp; omega
    rw [hb]
    simp
    omega

theorem sc1 {m K y T N : Nat} (hK : 0 < K) (key : y * T = N * K) (c : 2 * m * K ≤ 2 * y + K) : 2 * m * T ≤ 2 * N + T := by
  have h := Nat.mul_le_mul_right T c
  have h' : K * (2 * m * T) ≤ K * (2 * N + T) := by grind
  exact Nat.le_of_mul_le_mul_left h' hK
theorem sc2 {m K y T N : Nat} (hT : 0 < T) (key : y * T = N * K) (c : 2 * m * T = 2 * N + T) : 2 * m * K = 2 * y + K := by
  have h' : T * (2 * m * K) = T * (2 * y + K) := by grind
  exact Nat.eq_of_mul_eq_mul_left hT h'
theorem sc3 {m K y T N : Nat} (hK : 0 < K) (key : y * T = N * K) (c : 2 * y ≤ (2 * m + 1) * K) : 2 * N ≤ (2 * m + 1) * T := by
  have h := Nat.mul_le_mul_right T c
  have h' : K * (2 * N) ≤ K * ((2 * m + 1) * T) := by grind
  exact Nat.le_of_mul_le_mul_left h' hK
theorem sc4 {m K y T N : Nat} (hT : 0 < T) (key : y * T = N * K) (c : 2 * N = (2 * m + 1) * T) : 2 * y = (2 * m + 1) * K := by
  have h' : T * (2 * y) = T * ((2 * m + 1) * K) := by grind
  exact Nat.eq_of_mul_eq_mul_left hT h'
theorem sc5 {p K y T N : Nat} (hK : 0 < K) (key : y * T = N * K) (c : p * K ≤ y) : p * T ≤ N := by
  have h := Nat.mul_le_mul_right T c
  have h' : K * (p * T) ≤ K * N := by grind
  exact Nat.le_of_mul_le_mul_left h' hK
theorem sd1 {m K q S T B N : Nat} (key : S * K = T * B) (hx : q * S < N * B) (c : 2 * m * K ≤ 2 * q + K) : 2 * m * T < 2 * N + T := by
  have h := Nat.mul_le_mul_right S c
  have e1 : 2 * m * K * S = 2 * m * T * B := by grind
  have e2 : (2 * q + K) * S = 2 * (q * S) + T * B := by grind
  have e3 : (2 * N + T) * B = 2 * (N * B) + T * B := by grind
  have h' : (2 * m * T) * B < (2 * N + T) * B := by rw [e1, e2] at h; rw [e3]; omega
  exact Nat.lt_of_mul_lt_mul_right h'
theorem sd2 {m K q S T B N : Nat} (key : S * K = T * B) (hx : N * B < q * S) (c : 2 * q ≤ (2 * m + 1) * K) : 2 * N < (2 * m + 1) * T := by
  have h := Nat.mul_le_mul_right S c
  have e1 : (2 * m + 1) * K * S = (2 * m + 1) * T * B := by grind
  have e2 : 2 * q * S = 2 * (q * S) := by grind
  have e3 : 2 * N * B = 2 * (N * B) := by grind
  have h' : (2 * N) * B < ((2 * m + 1) * T) * B := by rw [e1, e2] at h; rw [e3]; omega
  exact Nat.lt_of_mul_lt_mul_right h'
theorem sd3 {p K q S T B N : Nat} (key : S * K = T * B) (hx : q * S < N * B) (c : p * K ≤ q) : p * T < N := by
  have h := Nat.mul_le_mul_right S c
  have e1 : p * K * S = p * T * B := by grind
  have h' : (p * T) * B < N * B := by rw [e1] at h; omega
  exact Nat.lt_of_mul_lt_mul_right h'

/-- How a number is written: the word of the rung to which it is rounded, infinity's at most. 'N / M' is what is meant; 'Q * 2 ^ place' may be told apart from it by less than one, if Q is odd and has 55 digits. -/
theorem near (neg : Bool) (Q : Nat) (place : Int) (N M : Nat) (hQ : Q ≠ 0) (hM : 0 < M)
    (hx : Q * 2 ^ (place + 1074).toNat * M = N * 2 ^ (-(place + 1074)).toNat ∨
      (54 ≤ Q.log2 ∧ Q % 2 = 1 ∧ (Q - 1) * 2 ^ (place + 1074).toNat * M < N * 2 ^ (-(place + 1074)).toNat ∧ N * 2 ^ (-(place + 1074)).toNat < (Q + 1) * 2 ^ (place + 1074).toNat * M)) :
    ∃ R, double.nearest neg Q place = double.word neg (min R double.infRung) ∧ Rnd R N M := by
  unfold Format.nearest
  rw [if_neg hQ]
  obtain ⟨last, hlast⟩ : ∃ last, last = max (place + Q.log2 - (double.fractionBits : Nat)) double.leastPlace := ⟨_, rfl⟩
  rw [← hlast]
  have hlp : double.leastPlace = -1074 := by decide
  have hfb : double.fractionBits = 52 := rfl
  have hbin : double.binade = 2 ^ 52 := rfl
  rw [hlp] at hlast
  rw [hfb] at hlast
  obtain ⟨m, hm, c1, c1e, c2, c2e⟩ := cut_spec neg (Q <<< (place - last).toNat) (last - place).toNat
  dsimp only
  rw [hm, hlp, hbin]
  obtain ⟨e, he⟩ : ∃ e, e = (last - -1074).toNat := ⟨_, rfl⟩
  rw [← he]
  refine ⟨e * 2 ^ 52 + m, rfl, ?_⟩
  rw [Nat.shiftLeft_eq] at c1 c1e c2 c2e
  have hlo := Nat.log2_self_le hQ
  have hhi := Nat.lt_log2_self (n := Q)
  generalize Q.log2 = L at *
  obtain ⟨l, hl⟩ : ∃ l, l = (place - last).toNat := ⟨_, rfl⟩
  obtain ⟨d, hd⟩ : ∃ d, d = (last - place).toNat := ⟨_, rfl⟩
  obtain ⟨a, ha⟩ : ∃ a, a = (place + 1074).toNat := ⟨_, rfl⟩
  obtain ⟨b, hb⟩ : ∃ b, b = (-(place + 1074)).toNat := ⟨_, rfl⟩
  rw [← hl, ← hd] at c1 c1e c2 c2e
  rw [← ha, ← hb] at hx
  have hexp : e + b + l = a + d := by omega
  have hle : L + l ≤ 52 + d := by omega
  have hge : e = 0 ∨ L + l = 52 + d := by omega
  -- powers
  have hK : 0 < 2 ^ d := Nat.two_pow_pos d
  have hBb : 0 < 2 ^ b := Nat.two_pow_pos b
  have hE : 0 < 2 ^ e := Nat.two_pow_pos e
  have hup : Q * 2 ^ l < 2 ^ 53 * 2 ^ d := by
    rw [← Nat.pow_add]
    refine Nat.lt_of_lt_of_le (Nat.mul_lt_mul_of_pos_right hhi (Nat.two_pow_pos l)) ?_
    rw [← Nat.pow_add]
    exact Nat.pow_le_pow_right (by omega) (by omega)
  have hdn : e = 0 ∨ 2 ^ 52 * 2 ^ d ≤ Q * 2 ^ l := by
    rcases hge with h | h
    · exact .inl h
    · refine .inr ?_
      rw [← Nat.pow_add, ← h, Nat.pow_add]
      exact Nat.mul_le_mul_right _ hlo
  have hpow : 2 ^ a * 2 ^ d = 2 ^ e * 2 ^ b * 2 ^ l := by rw [← Nat.pow_add, ← Nat.pow_add, ← Nat.pow_add, hexp]
  have hm53 : m ≤ 2 ^ 53 := by
    have h : 2 * m * 2 ^ d < (2 * 2 ^ 53 + 1) * 2 ^ d := by omega
    have := Nat.lt_of_mul_lt_mul_right h
    omega
  have hm52 : e = 0 ∨ 2 ^ 52 ≤ m := by
    rcases hdn with h | h
    · exact .inl h
    · have h' : 2 * 2 ^ 52 * 2 ^ d ≤ (2 * m + 1) * 2 ^ d := by omega
      have := Nat.le_of_mul_le_mul_right h' hK
      exact .inr (by omega)
  have hT : 0 < 2 ^ e * M := Nat.mul_pos hE hM
  rcases hx with hx | ⟨hL, hodd, hxl, hxu⟩
  · have key : Q * 2 ^ l * (2 ^ e * M) = N * 2 ^ d := by
      generalize 2 ^ a = A at *
      generalize 2 ^ d = K at *
      generalize 2 ^ e = E at *
      generalize 2 ^ b = Bb at *
      have : Bb * (Q * 2 ^ l * (E * M)) = Bb * (N * K) := by grind
      exact Nat.eq_of_mul_eq_mul_left hBb this
    refine rnd_core e m N M hM hm53 hm52 ?_ (sc1 hK key c1) (fun h => c1e (sc2 hT key h)) (sc3 hK key c2) (fun h => c2e (sc4 hT key h))
    rcases hdn with h | h
    · exact .inl h
    · exact .inr (sc5 hK key h)
  · obtain rfl : l = 0 := by omega
    obtain ⟨d', rfl⟩ : ∃ d', d = d' + 2 := ⟨d - 2, by omega⟩
    have key : 2 ^ a * M * 2 ^ (d' + 2) = 2 ^ e * M * 2 ^ b := by
      rw [Nat.pow_zero, Nat.mul_one] at hpow
      generalize 2 ^ a = A at *
      generalize 2 ^ (d' + 2) = K at *
      generalize 2 ^ e = E at *
      generalize 2 ^ b = Bb at *
      grind
    rw [Nat.mul_assoc] at hxl hxu
    rw [Nat.pow_zero, Nat.mul_one] at c1 c2 hdn
    have hKe : 2 ^ (d' + 2) = 4 * 2 ^ d' := by rw [Nat.pow_add]; omega
    have e1 : 2 * m * 2 ^ (d' + 2) = 8 * (m * 2 ^ d') := by rw [hKe]; grind
    have e2 : (2 * m + 1) * 2 ^ (d' + 2) = 8 * (m * 2 ^ d') + 4 * 2 ^ d' := by rw [hKe]; grind
    have g1 : 2 * m * 2 ^ (d' + 2) ≤ 2 * (Q - 1) + 2 ^ (d' + 2) := by omega
    have g2 : 2 * (Q + 1) ≤ (2 * m + 1) * 2 ^ (d' + 2) := by omega
    have s1 := sd1 key hxl g1
    have s2 := sd2 key hxu g2
    refine rnd_core e m N M hM hm53 hm52 ?_ (Nat.le_of_lt s1) (fun h => by omega) (Nat.le_of_lt s2) (fun h => by omega)
    rcases hdn with h | h
    · exact .inl h
    · exact .inr (Nat.le_of_lt (sd3 key hxl (show 2 ^ 52 * 2 ^ (d' + 2) ≤ Q - 1 by omega)))
end Go.Proofs.Ytglgkgpflindjaa.Fl
