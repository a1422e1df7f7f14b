/- The numbers that doubles stand for, rung by rung, and what it is to be rounded to a rung. Plain; no condition. -/
import Ieee.Arith
namespace Go.Proofs.Ytglgkgpflindjaa.Fl

/-- The number of a rung, in units of the least place; beyond the format it goes on. -/
def val (k : Nat) : Nat := if k < 2 ^ 52 then k else (2 ^ 52 + k % 2 ^ 52) * 2 ^ (k / 2 ^ 52 - 1)

theorem val_of (e m : Nat) (hm : m ≤ 2 ^ 53) (he : e = 0 ∨ 2 ^ 52 ≤ m) : val (e * 2 ^ 52 + m) = m * 2 ^ e := by
  unfold val
  by_cases h1 : m < 2 ^ 52
  · obtain rfl : e = 0 := by omega
    rw [if_pos (by omega)]
    omega
  · by_cases h2 : m < 2 ^ 53
    · rw [if_neg (by omega), show (e * 2 ^ 52 + m) % 2 ^ 52 = m - 2 ^ 52 by omega, show (e * 2 ^ 52 + m) / 2 ^ 52 = e + 1 by omega, show 2 ^ 52 + (m - 2 ^ 52) = m by omega]
      rfl
    · rw [if_neg (by omega), show (e * 2 ^ 52 + m) % 2 ^ 52 = 0 by omega, show (e * 2 ^ 52 + m) / 2 ^ 52 - 1 = e + 1 by omega, show m = 2 ^ 53 by omega, Nat.pow_succ 2 e]
      omega

theorem parts (k : Nat) : ∃ e m, k = e * 2 ^ 52 + m ∧ m < 2 ^ 53 ∧ (e = 0 ∨ 2 ^ 52 ≤ m) := by
  by_cases h : k < 2 ^ 52
  · exact ⟨0, k, by omega, by omega, .inl rfl⟩
  · exact ⟨k / 2 ^ 52 - 1, 2 ^ 52 + k % 2 ^ 52, by omega, by omega, .inr (by omega)⟩

theorem val_succ (k : Nat) : val k < val (k + 1) := by
  obtain ⟨e, m, rfl, hm, he⟩ := parts k
  rw [val_of e m (by omega) he, Nat.add_assoc, val_of e (m + 1) (by omega) (by omega), Nat.succ_mul]
  have : 0 < 2 ^ e := Nat.two_pow_pos e
  omega

theorem val_lt {i j : Nat} (h : i < j) : val i < val j := by
  induction j with
  | zero => omega
  | succ j ih =>
    have := val_succ j
    by_cases hij : i = j
    · subst hij; exact this
    · have := ih (by omega); omega
theorem val_le {i j : Nat} (h : i ≤ j) : val i ≤ val j := by
  by_cases hij : i = j
  · subst hij; exact Nat.le_refl _
  · exact Nat.le_of_lt (val_lt (by omega))

/-- The number N / M lies so high that it is rounded to rung k, or above. -/
def Above (k N M : Nat) : Prop := (val (k - 1) + val k) * M < 2 * N ∨ ((val (k - 1) + val k) * M = 2 * N ∧ k % 2 = 0)

theorem Above.down {k k' N M : Nat} (hM : 0 < M) (hk : 1 ≤ k) (h : k ≤ k') (ha : Above k' N M) : Above k N M := by
  by_cases e : k = k'
  · subst e; exact ha
  · have h1 : val (k - 1) ≤ val (k' - 1) := val_le (by omega)
    have h2 : val k < val k' := val_lt (by omega)
    have h3 : (val (k - 1) + val k) * M < (val (k' - 1) + val k') * M := Nat.mul_lt_mul_of_pos_right (by omega) hM
    unfold Above at ha ⊢
    omega

theorem Above.up {k N M N' M' : Nat} (hM : 0 < M) (hM' : 0 < M') (h : N * M' ≤ N' * M) (ha : Above k N M) : Above k N' M' := by
  unfold Above at ha ⊢
  generalize val (k - 1) + val k = v at ha ⊢
  rcases ha with ha | ⟨ha, hk⟩
  · left
    have h1 : v * M * M' < 2 * N * M' := Nat.mul_lt_mul_of_pos_right ha hM'
    have h2 : v * M' * M < 2 * N' * M := by grind
    exact Nat.lt_of_mul_lt_mul_right h2
  · have h1 : v * M * M' = 2 * N * M' := by rw [ha]
    have h2 : v * M' * M ≤ 2 * N' * M := by grind
    have h3 := Nat.le_of_mul_le_mul_right h2 hM
    omega

/-- R is the rung to which N / M is rounded, in a format without an end. -/
def Rnd (R N M : Nat) : Prop := ∀ k, 1 ≤ k → (k ≤ R ↔ Above k N M)

theorem Rnd.le {R N M R' N' M' : Nat} (h : Rnd R N M) (h' : Rnd R' N' M') (hM : 0 < M) (hM' : 0 < M') (hle : N * M' ≤ N' * M) : R ≤ R' := by
  by_cases h0 : R = 0
  · omega
  · exact (h' R (by omega)).2 (((h R (by omega)).1 (Nat.le_refl _)).up hM hM' hle)
theorem Rnd.eq {R N M R' N' M' : Nat} (h : Rnd R N M) (h' : Rnd R' N' M') (hM : 0 < M) (hM' : 0 < M') (heq : N * M' = N' * M) : R = R' :=
  Nat.le_antisymm (h.le h' hM hM' (by omega)) (h'.le h hM' hM (by omega))
theorem rnd_of {R N M : Nat} (hM : 0 < M) (h1 : 1 ≤ R → Above R N M) (h2 : ¬ Above (R + 1) N M) : Rnd R N M := by
  intro k hk
  constructor
  · intro h
    exact (h1 (by omega)).down hM hk h
  · intro h
    by_cases hle : k ≤ R
    · exact hle
    · exact absurd (h.down hM (by omega) (by omega)) h2
/-- What a rung stands for is rounded to it. -/
theorem rnd_self (k M : Nat) (hM : 0 < M) : Rnd k (val k * M) M := by
  refine rnd_of hM (fun hk => ?_) ?_
  · left
    have : val (k - 1) < val k := val_lt (by omega)
    have := Nat.mul_lt_mul_of_pos_right (show val (k - 1) + val k < 2 * val k by omega) hM
    grind
  · have : val k < val (k + 1) := val_succ k
    have := Nat.mul_lt_mul_of_pos_right (show 2 * val k < val (k + 1 - 1) + val (k + 1) by simp; omega) hM
    unfold Above
    rw [Nat.mul_assoc] at this
    omega

theorem rnd_core (e m N M : Nat) (hM : 0 < M) (hm : m ≤ 2 ^ 53) (he : e = 0 ∨ 2 ^ 52 ≤ m) (hlow : e = 0 ∨ 2 ^ 52 * (2 ^ e * M) ≤ N)
    (h1 : 2 * m * (2 ^ e * M) ≤ 2 * N + 2 ^ e * M) (h1e : 2 * m * (2 ^ e * M) = 2 * N + 2 ^ e * M → m % 2 = 0)
    (h2 : 2 * N ≤ (2 * m + 1) * (2 ^ e * M)) (h2e : 2 * N = (2 * m + 1) * (2 ^ e * M) → m % 2 = 0) : Rnd (e * 2 ^ 52 + m) N M := by
  have hT : 0 < 2 ^ e * M := Nat.mul_pos (Nat.two_pow_pos e) hM
  have hv : val (e * 2 ^ 52 + m) = m * 2 ^ e := val_of e m hm he
  refine rnd_of hM (fun hR => ?_) ?_
  · by_cases hc : e = 0 ∨ 2 ^ 52 < m
    · have hv' : val (e * 2 ^ 52 + m - 1) = (m - 1) * 2 ^ e := by
        rw [show e * 2 ^ 52 + m - 1 = e * 2 ^ 52 + (m - 1) by omega]
        exact val_of e (m - 1) (by omega) (by omega)
      unfold Above
      rw [hv, hv', show ((m - 1) * 2 ^ e + m * 2 ^ e) * M = (m - 1 + m) * (2 ^ e * M) by grind]
      generalize 2 ^ e * M = T at *
      obtain ⟨m', rfl⟩ : ∃ m', m = m' + 1 := ⟨m - 1, by omega⟩
      have e1 : 2 * (m' + 1) * T = 2 * m' * T + 2 * T := by grind
      have e2 : (m' + 1 - 1 + (m' + 1)) * T = 2 * m' * T + T := by rw [show m' + 1 - 1 + (m' + 1) = 2 * m' + 1 by omega]; grind
      rw [e2]
      rw [e1] at h1 h1e
      by_cases hlt : 2 * m' * T + T < 2 * N
      · exact .inl hlt
      · refine .inr ⟨by omega, ?_⟩
        have := h1e (by omega)
        omega
    · left
      have hlt : val (e * 2 ^ 52 + m - 1) < val (e * 2 ^ 52 + m) := val_lt (by omega)
      have h3 : (val (e * 2 ^ 52 + m - 1) + val (e * 2 ^ 52 + m)) * M < 2 * val (e * 2 ^ 52 + m) * M := Nat.mul_lt_mul_of_pos_right (by omega) hM
      rw [show 2 * val (e * 2 ^ 52 + m) * M = 2 * (m * (2 ^ e * M)) by rw [hv]; grind, show m = 2 ^ 52 by omega] at h3
      rw [show m = 2 ^ 52 by omega]
      omega
  · intro ha
    by_cases hc : m < 2 ^ 53
    · have hv' : val (e * 2 ^ 52 + m + 1) = (m + 1) * 2 ^ e := by
        rw [Nat.add_assoc]
        exact val_of e (m + 1) (by omega) (by omega)
      unfold Above at ha
      rw [show e * 2 ^ 52 + m + 1 - 1 = e * 2 ^ 52 + m by omega, hv, hv', show (m * 2 ^ e + (m + 1) * 2 ^ e) * M = (2 * m + 1) * (2 ^ e * M) by grind] at ha
      rcases ha with ha | ⟨ha, hk⟩
      · omega
      · have := h2e ha.symm
        omega
    · have hv' : val (e * 2 ^ 52 + m + 1) = (2 ^ 52 + 1) * 2 ^ (e + 1) := by
        rw [show e * 2 ^ 52 + m + 1 = (e + 1) * 2 ^ 52 + (2 ^ 52 + 1) by omega]
        exact val_of (e + 1) (2 ^ 52 + 1) (by omega) (by omega)
      unfold Above at ha
      rw [show e * 2 ^ 52 + m + 1 - 1 = e * 2 ^ 52 + m by omega, hv, hv', show m = 2 ^ 53 by omega, show (2 ^ 53 * 2 ^ e + (2 ^ 52 + 1) * 2 ^ (e + 1)) * M = (2 * 2 ^ 53 + 2) * (2 ^ e * M) by rw [Nat.pow_succ]; grind] at ha
      rw [show m = 2 ^ 53 by omega] at h2
      generalize 2 ^ e * M = T at *
      have e1 : (2 * 2 ^ 53 + 2) * T = 2 * 2 ^ 53 * T + 2 * T := by grind
      have e2 : (2 * 2 ^ 53 + 1) * T = 2 * 2 ^ 53 * T + T := by grind
      omega
end Go.Proofs.Ytglgkgpflindjaa.Fl
