/- Addresses as texts, as plain lists: what is shown, and what is parsed. Plain mathematics, no condition. -/
import Derived.Test.YtdjgenigjfjcfaaMem
namespace Go.Proofs.Ytdjgenigjfjcfaa

/-- A digit. -/
def dig (n : Nat) : UInt8 := [48, 49, 50, 51, 52, 53, 54, 55, 56, 57, 97, 98, 99, 100, 101, 102].getD n 0
/-- The text of the first k bytes of an address. -/
def showL (a : Nat) : Nat → List UInt8
  | 0 => []
  | k + 1 => showL a k ++ (if k = 0 then [] else [58]) ++ [dig (a / 256 ^ (5 - k) % 256 / 16), dig (a / 256 ^ (5 - k) % 256 % 16)]
theorem showL_length (a k : Nat) : (showL a k).length ≤ 3 * k := by
  induction k with
  | zero => simp [showL]
  | succ k ih =>
    simp only [showL, List.length_append, List.length_cons, List.length_nil]
    split <;> simp <;> omega
/-- The same, from the lowest byte on: the text of the last k bytes. -/
def refL (a : Nat) : Nat → List UInt8
  | 0 => []
  | k + 1 => dig (a / 256 ^ k % 256 / 16) :: dig (a / 256 ^ k % 256 % 16) :: (if k = 0 then refL a k else 58 :: refL a k)
theorem refL_length (a k : Nat) : (refL a k).length ≤ 3 * k := by
  induction k with
  | zero => simp [refL]
  | succ k ih =>
    simp only [refL, List.length_cons]
    split
    · omega
    · rw [List.length_cons]
      omega
theorem show_ref (a : Nat) : showL a 6 = refL a 6 := by simp [showL, refL]
def strL (l : List UInt8) : ByteArray := ⟨l.toArray⟩
theorem strL_size (l : List UInt8) : (strL l).size = l.length := by show l.toArray.size = _; simp
theorem strL_append (l m : List UInt8) : strL l ++ strL m = strL (l ++ m) := by
  apply ByteArray.ext
  simp [strL]
/-- What a digit stands for. -/
def dgv (r : Nat) : Option Nat := if 48 ≤ r ∧ r ≤ 57 then some (r - 48) else if 97 ≤ r ∧ r ≤ 102 then some (r - 87) else none
/-- What the first k letters of a text have told: the number so far, unless one of them fits no address. -/
def pv (l : List UInt8) : Nat → Option Nat
  | 0 => some 0
  | k + 1 => match pv l k with
    | none => none
    | some v => if k % 3 = 2 then (if (l.getD k 0).toNat = 58 then some v else none) else (dgv (l.getD k 0).toNat).map fun d => v * 16 + d
theorem pv_none (l : List UInt8) {k j : Nat} (h : pv l k = none) (hj : k ≤ j) : pv l j = none := by
  induction j with
  | zero => obtain rfl : k = 0 := by omega
            exact h
  | succ j ih =>
    by_cases e : k = j + 1
    · subst e; exact h
    · simp only [pv, ih (by omega)]
theorem dgv_lt {r d : Nat} (h : dgv r = some d) : d < 16 := by
  unfold dgv at h
  split at h
  · injection h; omega
  · split at h
    · injection h; omega
    · cases h
/-- How many digits stand in the first k letters. -/
def dgs (k : Nat) : Nat := k - k / 3
theorem pv_lt (l : List UInt8) (k v : Nat) (h : pv l k = some v) : v < 16 ^ dgs k := by
  induction k generalizing v with
  | zero => simp [pv] at h; subst h; decide
  | succ k ih =>
    simp only [pv] at h
    cases hp : pv l k with
    | none => rw [hp] at h; cases h
    | some u =>
      rw [hp] at h
      have := ih u hp
      simp only at h
      split at h
      · split at h
        · injection h with h
          subst h
          have e : dgs (k + 1) = dgs k := by unfold dgs; omega
          rw [e]; exact this
        · cases h
      · cases hd : dgv (l.getD k 0).toNat with
        | none => rw [hd] at h; cases h
        | some d =>
          rw [hd] at h
          simp at h
          have := dgv_lt hd
          have e : dgs (k + 1) = dgs k + 1 := by unfold dgs; omega
          rw [e, Nat.pow_succ]
          omega
end Go.Proofs.Ytdjgenigjfjcfaa
