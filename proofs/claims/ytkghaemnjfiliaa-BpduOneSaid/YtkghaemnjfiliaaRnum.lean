/- What a reader's numbers are, as plain data, and Get at given sizes. No condition but the reader's place. -/
import Derived.Test.YtkghaemnjfiliaaBmath
namespace Go.Proofs.Ytkghaemnjfiliaa
open Go.RowKit

theorem RdS.take_ok {r : RdS} (h : r.ok) (n : Int) : (r.take n).ok := by
  obtain ⟨h1, h2⟩ := h
  unfold RdS.take
  split
  · rename_i hc
    simp only [RdS.can, Bool.and_eq_true, decide_eq_true_eq] at hc
    exact ⟨by show r.at_ + n.toNat ≤ r.s.size; omega, h2⟩
  · exact ⟨h1, h2⟩

/-- The number of the next bytes. -/
def RdS.get (r : RdS) (n : Int) : Int := (num (r.text n).data.toList : Nat)
/-- A reader that stands behind p reads q. -/
theorem get_at {T : ByteArray} {p q rest : List UInt8} (hT : T.data.toList = p ++ (q ++ rest)) {z : Int} (h0 : 1 ≤ z) (hq : q.length = z.toNat) :
    (RdS.mk T p.length false).get z = (num q : Nat) ∧ (RdS.mk T p.length false).take z = ⟨T, (p ++ q).length, false⟩ := by
  have h := text_of T p q z h0 hq (by rw [hT, List.drop_left, ← hq, List.take_left])
  refine ⟨by unfold RdS.get; rw [h.1], ?_⟩
  rw [h.2, List.length_append, hq]
theorem num_in {n : Int} {k : Nat} (h0 : 0 ≤ n) (h : n < (256 ^ k : Nat)) : ((num (be n k) : Nat) : Int) = n := by
  rw [num_be]
  exact Int.emod_eq_of_lt h0 h

theorem get_near (g : Nat) (r : RdS) (n : Int) (hn : near n 7 = n) (w : World) (h : IsR w g r) (hr : r.ok) :
    Calls Try.prog 33 #[.pointer (some ⟨g, 0, none⟩), .int .i64 n] w fun e w' => e = .returned (.int .i64 (r.get n)) ∧ IsR w' g (r.take n) ∧ Touch (· = g) w w' := by
  have h := get_any g r n w h hr
  rw [hn] at h
  exact h
theorem get_lt (r : RdS) (n : Int) (k : Nat) (hn : n = k) : 0 ≤ r.get n ∧ r.get n < ((256 ^ k : Nat) : Int) := by
  subst hn
  have h1 := num_lt (r.text k).data.toList
  have h2 := text_le r k
  have h3 : (r.text k).data.toList.length ≤ k := by
    rw [Array.length_toList]
    show (r.text k).size ≤ k
    omega
  have h4 : 256 ^ (r.text k).data.toList.length ≤ 256 ^ k := Nat.pow_le_pow_right (by omega) h3
  unfold RdS.get
  omega
end Go.Proofs.Ytkghaemnjfiliaa
