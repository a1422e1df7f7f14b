/- What is shown is parsed, and the other way round: on plain lists. No condition. -/
import Derived.Test.YtdjgenigjfjcfaaText
namespace Go.Proofs.Ytdjgenigjfjcfaa

theorem dgv_dig (n : Nat) (h : n < 16) : dgv (dig n).toNat = some n := by
  have : n = 0 ∨ n = 1 ∨ n = 2 ∨ n = 3 ∨ n = 4 ∨ n = 5 ∨ n = 6 ∨ n = 7 ∨ n = 8 ∨ n = 9 ∨ n = 10 ∨ n = 11 ∨ n = 12 ∨ n = 13 ∨ n = 14 ∨ n = 15 := by omega
  clear h
  rcases this with rfl | rfl | rfl | rfl | rfl | rfl | rfl | rfl | rfl | rfl | rfl | rfl | rfl | rfl | rfl | rfl <;> rfl
theorem dig_dgv {c : UInt8} {d : Nat} (h : dgv c.toNat = some d) : c = dig d := by
  have hd := dgv_lt h
  apply UInt8.toNat_inj.1
  unfold dgv at h
  split at h
  · injection h with h
    obtain ⟨h1, h2⟩ := ‹_ ∧ _›
    have : d = 0 ∨ d = 1 ∨ d = 2 ∨ d = 3 ∨ d = 4 ∨ d = 5 ∨ d = 6 ∨ d = 7 ∨ d = 8 ∨ d = 9 := by omega
    have e : c.toNat = d + 48 := by omega
    rw [e]
    clear e h h1 h2 hd
    rcases this with rfl | rfl | rfl | rfl | rfl | rfl | rfl | rfl | rfl | rfl <;> rfl
  · split at h
    · injection h with h
      obtain ⟨h1, h2⟩ := ‹97 ≤ _ ∧ _›
      have : d = 10 ∨ d = 11 ∨ d = 12 ∨ d = 13 ∨ d = 14 ∨ d = 15 := by omega
      have e : c.toNat = d + 87 := by omega
      rw [e]
      clear e h h1 h2 hd
      rcases this with rfl | rfl | rfl | rfl | rfl | rfl <;> rfl
    · cases h
/-- An address as a text, letter by letter. -/
theorem show_list (a : Nat) : showL a 6 = [dig (a / 16 ^ 11 % 16), dig (a / 16 ^ 10 % 16), 58, dig (a / 16 ^ 9 % 16), dig (a / 16 ^ 8 % 16), 58, dig (a / 16 ^ 7 % 16), dig (a / 16 ^ 6 % 16), 58, dig (a / 16 ^ 5 % 16), dig (a / 16 ^ 4 % 16), 58, dig (a / 16 ^ 3 % 16), dig (a / 16 ^ 2 % 16), 58, dig (a / 16 % 16), dig (a % 16)] := by
  have h1 : ∀ m : Nat, m % 256 / 16 = m / 16 % 16 := fun m => by omega
  have h2 : ∀ m : Nat, m % 256 % 16 = m % 16 := fun m => by omega
  simp [showL, h1, h2, Nat.div_div_eq_div_mul]
theorem step_digit {l : List UInt8} {k v d : Nat} (h : pv l k = some v) (e : l.getD k 0 = dig d) (hd : d < 16) (hm : ¬ k % 3 = 2) : pv l (k + 1) = some (v * 16 + d) := by
  simp only [pv, h, if_neg hm, e, dgv_dig d hd, Option.map_some]
theorem step_colon {l : List UInt8} {k v : Nat} (h : pv l k = some v) (e : l.getD k 0 = 58) (hm : k % 3 = 2) : pv l (k + 1) = some v := by
  simp only [pv, h, if_pos hm, e]
  rfl
theorem pv_digs (d0 d1 d3 d4 d6 d7 d9 d10 d12 d13 d15 d16 : Nat) (b0 : d0 < 16) (b1 : d1 < 16) (b3 : d3 < 16) (b4 : d4 < 16) (b6 : d6 < 16) (b7 : d7 < 16) (b9 : d9 < 16) (b10 : d10 < 16) (b12 : d12 < 16) (b13 : d13 < 16) (b15 : d15 < 16) (b16 : d16 < 16) :
    pv [dig d0, dig d1, 58, dig d3, dig d4, 58, dig d6, dig d7, 58, dig d9, dig d10, 58, dig d12, dig d13, 58, dig d15, dig d16] 17 = some ((((((((((((0 * 16 + d0) * 16 + d1) * 16 + d3) * 16 + d4) * 16 + d6) * 16 + d7) * 16 + d9) * 16 + d10) * 16 + d12) * 16 + d13) * 16 + d15) * 16 + d16) := by
  have p0 : pv [dig d0, dig d1, 58, dig d3, dig d4, 58, dig d6, dig d7, 58, dig d9, dig d10, 58, dig d12, dig d13, 58, dig d15, dig d16] 0 = some 0 := rfl
  have p1 := step_digit p0 (d := d0) rfl b0 (by decide)
  have p2 := step_digit p1 (d := d1) rfl b1 (by decide)
  have p3 := step_colon p2 rfl (by decide)
  have p4 := step_digit p3 (d := d3) rfl b3 (by decide)
  have p5 := step_digit p4 (d := d4) rfl b4 (by decide)
  have p6 := step_colon p5 rfl (by decide)
  have p7 := step_digit p6 (d := d6) rfl b6 (by decide)
  have p8 := step_digit p7 (d := d7) rfl b7 (by decide)
  have p9 := step_colon p8 rfl (by decide)
  have p10 := step_digit p9 (d := d9) rfl b9 (by decide)
  have p11 := step_digit p10 (d := d10) rfl b10 (by decide)
  have p12 := step_colon p11 rfl (by decide)
  have p13 := step_digit p12 (d := d12) rfl b12 (by decide)
  have p14 := step_digit p13 (d := d13) rfl b13 (by decide)
  have p15 := step_colon p14 rfl (by decide)
  have p16 := step_digit p15 (d := d15) rfl b15 (by decide)
  have p17 := step_digit p16 (d := d16) rfl b16 (by decide)
  exact p17
theorem hstep (a k : Nat) : a / 16 ^ (k + 1) * 16 + a / 16 ^ k % 16 = a / 16 ^ k := by
  rw [Nat.pow_succ, ← Nat.div_div_eq_div_mul]
  omega
theorem pv_show (a : Nat) (ha : a ≤ 281474976710655) : pv (showL a 6) 17 = some a := by
  rw [show_list, pv_digs _ _ _ _ _ _ _ _ _ _ _ _ (by omega) (by omega) (by omega) (by omega) (by omega) (by omega) (by omega) (by omega) (by omega) (by omega) (by omega) (by omega)]
  refine congrArg some ?_
  have h11 : 0 * 16 + a / 16 ^ 11 % 16 = a / 16 ^ 11 := by omega
  have h0 : a / 16 ^ 1 * 16 + a % 16 = a := by omega
  have h1 := hstep a 1
  rw [Nat.pow_one] at h0 h1
  rw [h11, hstep a 10, hstep a 9, hstep a 8, hstep a 7, hstep a 6, hstep a 5, hstep a 4, hstep a 3, hstep a 2, h1, h0]
theorem inv_digit {l : List UInt8} {k v : Nat} (hm : ¬ k % 3 = 2) (h : pv l (k + 1) = some v) : ∃ u d, pv l k = some u ∧ l.getD k 0 = dig d ∧ d < 16 ∧ v = u * 16 + d := by
  simp only [pv] at h
  cases hp : pv l k with
  | none => rw [hp] at h; cases h
  | some u =>
    rw [hp] at h
    simp only [if_neg hm] at h
    cases hd : dgv (l.getD k 0).toNat with
    | none => rw [hd] at h; cases h
    | some d =>
      rw [hd] at h
      simp at h
      exact ⟨u, d, rfl, dig_dgv hd, dgv_lt hd, h.symm⟩
theorem inv_colon {l : List UInt8} {k v : Nat} (hm : k % 3 = 2) (h : pv l (k + 1) = some v) : pv l k = some v ∧ l.getD k 0 = 58 := by
  simp only [pv] at h
  cases hp : pv l k with
  | none => rw [hp] at h; cases h
  | some u =>
    rw [hp] at h
    simp only [if_pos hm] at h
    split at h
    · exact ⟨h, UInt8.toNat_inj.1 ‹_›⟩
    · cases h
theorem list_17 (l : List UInt8) (h : l.length = 17) : l = [l.getD 0 0, l.getD 1 0, l.getD 2 0, l.getD 3 0, l.getD 4 0, l.getD 5 0, l.getD 6 0, l.getD 7 0, l.getD 8 0, l.getD 9 0, l.getD 10 0, l.getD 11 0, l.getD 12 0, l.getD 13 0, l.getD 14 0, l.getD 15 0, l.getD 16 0] := by
  match l, h with
  | [_, _, _, _, _, _, _, _, _, _, _, _, _, _, _, _, _], _ => rfl
theorem show_pv (l : List UInt8) (v : Nat) (hl : l.length = 17) (h : pv l 17 = some v) : showL v 6 = l ∧ v ≤ 281474976710655 := by
  obtain ⟨u16, d16, p16, e16, b16, rfl⟩ := inv_digit (by decide) h
  obtain ⟨u15, d15, p15, e15, b15, rfl⟩ := inv_digit (by decide) p16
  obtain ⟨p14, e14⟩ := inv_colon (by decide) p15
  obtain ⟨u13, d13, p13, e13, b13, rfl⟩ := inv_digit (by decide) p14
  obtain ⟨u12, d12, p12, e12, b12, rfl⟩ := inv_digit (by decide) p13
  obtain ⟨p11, e11⟩ := inv_colon (by decide) p12
  obtain ⟨u10, d10, p10, e10, b10, rfl⟩ := inv_digit (by decide) p11
  obtain ⟨u9, d9, p9, e9, b9, rfl⟩ := inv_digit (by decide) p10
  obtain ⟨p8, e8⟩ := inv_colon (by decide) p9
  obtain ⟨u7, d7, p7, e7, b7, rfl⟩ := inv_digit (by decide) p8
  obtain ⟨u6, d6, p6, e6, b6, rfl⟩ := inv_digit (by decide) p7
  obtain ⟨p5, e5⟩ := inv_colon (by decide) p6
  obtain ⟨u4, d4, p4, e4, b4, rfl⟩ := inv_digit (by decide) p5
  obtain ⟨u3, d3, p3, e3, b3, rfl⟩ := inv_digit (by decide) p4
  obtain ⟨p2, e2⟩ := inv_colon (by decide) p3
  obtain ⟨u1, d1, p1, e1, b1, rfl⟩ := inv_digit (by decide) p2
  obtain ⟨u0, d0, p0, e0, b0, rfl⟩ := inv_digit (by decide) p1
  have h0 : u0 = 0 := by simp [pv] at p0; exact p0.symm
  subst h0
  refine ⟨?_, by omega⟩
  rw [list_17 l hl, e0, e1, e2, e3, e4, e5, e6, e7, e8, e9, e10, e11, e12, e13, e14, e15, e16, show_list]
  clear e0 e1 e2 e3 e4 e5 e6 e7 e8 e9 e10 e11 e12 e13 e14 e15 e16 p0 p1 p2 p3 p4 p5 p6 p7 p8 p9 p10 p11 p12 p13 p14 p15 p16 h hl
  generalize hv : (((((((((((0 * 16 + d0) * 16 + d1) * 16 + d3) * 16 + d4) * 16 + d6) * 16 + d7) * 16 + d9) * 16 + d10) * 16 + d12) * 16 + d13) * 16 + d15) * 16 + d16 = v
  have f0 : v / 16 ^ 11 % 16 = d0 := by omega
  have f1 : v / 16 ^ 10 % 16 = d1 := by omega
  have f2 : v / 16 ^ 9 % 16 = d3 := by omega
  have f3 : v / 16 ^ 8 % 16 = d4 := by omega
  have f4 : v / 16 ^ 7 % 16 = d6 := by omega
  have f5 : v / 16 ^ 6 % 16 = d7 := by omega
  have f6 : v / 16 ^ 5 % 16 = d9 := by omega
  have f7 : v / 16 ^ 4 % 16 = d10 := by omega
  have f8 : v / 16 ^ 3 % 16 = d12 := by omega
  have f9 : v / 16 ^ 2 % 16 = d13 := by omega
  have f10 : v / 16 % 16 = d15 := by omega
  have f11 : v % 16 = d16 := by omega
  rw [f0, f1, f2, f3, f4, f5, f6, f7, f8, f9, f10, f11]
end Go.Proofs.Ytdjgenigjfjcfaa
