/- What is turned in a text whose sum is 0 turns its sum: two bytes in a row, one bit, two bits of up to 502 bytes. Plain mathematics, no program in it. -/
import Derived.Test.YthbnadohldiifaaDoorCrc
namespace Go.Proofs.YthbnadohldiifaaDoor
namespace Crc

theorem row_turned {L : List UInt8} (h0 : of L = 0) {K : Nat} {c0 c1 : UInt8} (hc0 : L[K]? = some c0) (hc1 : L[K + 1]? = some c1) {x y : UInt8} (h : x.toNat ≠ 0 ∨ y.toNat ≠ 0) :
    of ((L.set K (c0 ^^^ x)).set (K + 1) (c1 ^^^ y)) ≠ 0 := by
  intro e
  have hlt : K + 1 < L.length := (List.getElem?_eq_some_iff.1 hc1).1
  obtain ⟨m, hm⟩ : ∃ m, L.length = m + K + 1 := ⟨L.length - K - 1, by omega⟩
  have hc1' : (L.set K (c0 ^^^ x))[K + 1]? = some c1 := by rw [List.getElem?_set_ne (by omega)]; exact hc1
  unfold of at e h0
  rw [from_turn 65535 _ (K + 1) y c1 hc1', from_turn 65535 L K x c0 hc0, h0, Nat.zero_xor, List.length_set] at e
  rw [show L.length - (K + 1) = m by omega, show L.length - K = m + 1 by omega, show 8 * (m + 1) = 8 + 8 * m by omega, it_add, ← it_xor] at e
  have hx := high_lt x.toNat_lt
  have hy := high_lt y.toNat_lt
  have e1 := eq_of_xor (it_zero (xor_lt (it_lt hx) hy) e)
  rw [← low_is y.toNat_lt] at e1
  have e2 := it_inj hx (Nat.lt_of_lt_of_le y.toNat_lt (by decide)) e1
  rw [Nat.shiftLeft_eq] at e2
  have := y.toNat_lt
  omega

theorem bit_turn {L : List UInt8} {p : Nat} {c x : UInt8} (hc : L[p]? = some c) {i : Nat} (hi : i < 8) (hx : x.toNat = 2 ^ i) :
    of (L.set p (c ^^^ x)) = of L ^^^ it (8 * (L.length - p) + (8 + i)) 1 := by
  unfold of
  rw [from_turn 65535 L p x c hc, hx, bit_is hi, ← it_add, Nat.add_comm]
theorem one_turned {L : List UInt8} (h0 : of L = 0) {p : Nat} {c x : UInt8} (hc : L[p]? = some c) {i : Nat} (hi : i < 8) (hx : x.toNat = 2 ^ i) :
    of (L.set p (c ^^^ x)) ≠ 0 := by
  rw [bit_turn hc hi hx, h0, Nat.zero_xor]
  intro e
  exact absurd (it_zero (by decide) e) (by decide)
theorem two_turned {L : List UInt8} (h0 : of L = 0) (hl : L.length ≤ 502) {p q : Nat} {c d x y : UInt8} (hc : L[p]? = some c) {i j : Nat} (hi : i < 8) (hj : j < 8) (hx : x.toNat = 2 ^ i) (hy : y.toNat = 2 ^ j)
    (hd : (L.set p (c ^^^ x))[q]? = some d) (h : ¬ (8 * p + i = 8 * q + j)) :
    of ((L.set p (c ^^^ x)).set q (d ^^^ y)) ≠ 0 := by
  have hp : p < L.length := (List.getElem?_eq_some_iff.1 hc).1
  have hq : q < L.length := by have := (List.getElem?_eq_some_iff.1 hd).1; simpa using this
  rw [bit_turn hd hj hy, bit_turn hc hi hx, h0, Nat.zero_xor, List.length_set]
  intro e
  exact its_unlike (by omega) (by omega) (by omega) (eq_of_xor e)
end Crc
end Go.Proofs.YthbnadohldiifaaDoor
