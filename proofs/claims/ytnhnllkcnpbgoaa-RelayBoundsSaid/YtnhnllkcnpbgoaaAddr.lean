/- Contracts of addr's and the document's questions about numbers: each answers a Bool, and leaves the world alone. No condition but an int's range. -/
import Derived.Test.YtnhnllkcnpbgoaaMem
import Derived.Laws.BitsLemmas
namespace Go.Proofs.Ytnhnllkcnpbgoaa
open Go.RowKit

def goodB (a : Int) : Bool := decide (0 ≤ a ∧ a ≤ 281474976710655)
def manyB (a : Int) : Bool := decide (0 ≤ a ∧ a ≤ 281474976710655 ∧ a / 1099511627776 % 2 = 1)
def keptB (a : Int) : Bool := decide ((1652522221568 ≤ a ∧ a ≤ 1652522221583) ∨ a = 1652522221600 ∨ a = 1652522221601)
def vidB (a : Int) : Bool := decide (1 ≤ a ∧ a ≤ 4094)
def typeB (a : Int) : Bool := decide (1536 ≤ a ∧ a ≤ 65535)
def lengthB (a : Int) : Bool := decide (0 ≤ a ∧ a ≤ 1500)
theorem goodB_t {a : Int} (h : 0 ≤ a) (h' : a ≤ 281474976710655) : goodB a = true := decide_eq_true ⟨h, h'⟩
theorem goodB_f {a : Int} (h : ¬ (0 ≤ a ∧ a ≤ 281474976710655)) : goodB a = false := decide_eq_false h

theorem good_any (a : Int) (w : World) :
    Calls Try.prog 20 #[.int .i64 a] w fun e w' => e = .returned (.bool (goodB a)) ∧ w = w' := by
  by_cases h1 : 0 ≤ a
  · by_cases h2 : a ≤ 281474976710655
    · rw [goodB_t h1 h2]
      go_enter Try.func20, Try.ntmps20
      go_wp2
      go_ret
      exact ⟨rfl, rfl⟩
    · rw [goodB_f (by omega)]
      go_enter Try.func20, Try.ntmps20
      go_wp2
      go_ret
      exact ⟨rfl, rfl⟩
  · rw [goodB_f (by omega)]
    go_enter Try.func20, Try.ntmps20
    go_wp2
    go_ret
    exact ⟨rfl, rfl⟩
theorem bits_low (a : Int) (h0 : 0 ≤ a) (h1 : a ≤ 281474976710655) (h : a / 1099511627776 % 2 = 1) : bits .and .i64 a 1099511627776 = 1099511627776 := by
  obtain ⟨n, rfl⟩ := Int.eq_ofNat_of_zero_le h0
  have e := (bits_nat .i64 63 (by decide) (fun n a b => IntWalk.i64_in _ (by omega)) n 1099511627776 (by omega) (by decide)).1
  have hb : n.testBit 40 = true := by rw [Nat.testBit_eq_decide_div_mod_eq]; simp; omega
  have h2 : n &&& 1099511627776 = 1099511627776 := by
    show n &&& 2 ^ 40 = 2 ^ 40
    refine Nat.eq_of_testBit_eq fun i => ?_
    rw [Nat.testBit_and, Nat.testBit_two_pow]
    by_cases hi : 40 = i
    · subst hi; rw [hb]; rfl
    · simp [hi]
  rw [h2] at e
  exact e
theorem bits_none (a : Int) (h0 : 0 ≤ a) (h1 : a ≤ 281474976710655) (h : ¬ a / 1099511627776 % 2 = 1) : bits .and .i64 a 1099511627776 = 0 := by
  obtain ⟨n, rfl⟩ := Int.eq_ofNat_of_zero_le h0
  have e := (bits_nat .i64 63 (by decide) (fun n a b => IntWalk.i64_in _ (by omega)) n 1099511627776 (by omega) (by decide)).1
  have hb : n.testBit 40 = false := by rw [Nat.testBit_eq_decide_div_mod_eq]; simp; omega
  have h2 : n &&& 1099511627776 = 0 := by
    show n &&& 2 ^ 40 = 0
    refine Nat.eq_of_testBit_eq fun i => ?_
    rw [Nat.testBit_and, Nat.testBit_two_pow]
    by_cases hi : 40 = i
    · subst hi; rw [hb]; simp
    · simp [hi]
  rw [h2] at e
  exact e
theorem many_any (a : Int) (w : World) :
    Calls Try.prog 21 #[.int .i64 a] w fun e w' => e = .returned (.bool (manyB a)) ∧ w = w' := by
  by_cases hg : 0 ≤ a ∧ a ≤ 281474976710655
  · have HG := Lib.hid (goodB_t hg.1 hg.2)
    by_cases h3 : a / 1099511627776 % 2 = 1
    · have e := bits_low a hg.1 hg.2 h3
      rw [show manyB a = true from decide_eq_true ⟨hg.1, hg.2, h3⟩]
      clear h3 hg
      go_enter Try.func21, Try.ntmps21
      go_wp2_with (go_at_call 20; refine (good_any _ _).mono ?_; rw [HG.out]; rintro e w' ⟨rfl, rfl⟩)
      go_ret
      exact ⟨rfl, rfl⟩
    · have e := bits_none a hg.1 hg.2 h3
      rw [show manyB a = false from decide_eq_false (fun h => h3 h.2.2)]
      clear h3 hg
      go_enter Try.func21, Try.ntmps21
      go_wp2_with (go_at_call 20; refine (good_any _ _).mono ?_; rw [HG.out]; rintro e w' ⟨rfl, rfl⟩)
      go_ret
      exact ⟨rfl, rfl⟩
  · have HG := Lib.hid (goodB_f hg)
    rw [show manyB a = false from decide_eq_false (fun h => hg ⟨h.1, h.2.1⟩)]
    clear hg
    go_enter Try.func21, Try.ntmps21
    go_wp2_with (go_at_call 20; refine (good_any _ _).mono ?_; rw [HG.out]; rintro e w' ⟨rfl, rfl⟩)
    go_ret
    exact ⟨rfl, rfl⟩

theorem kept_any (a : Int) (w : World) :
    Calls Try.prog 18 #[.int .i64 a] w fun e w' => e = .returned (.bool (keptB a)) ∧ w = w' := by
  have hcase : (1652522221568 ≤ a ∧ a ≤ 1652522221583) ∨ a = 1652522221600 ∨ a = 1652522221601 ∨ (a < 1652522221568) ∨ (1652522221583 < a ∧ a ≠ 1652522221600 ∧ a ≠ 1652522221601) := by omega
  rcases hcase with ⟨h1, h2⟩ | rfl | rfl | h1 | ⟨h1, h2, h3⟩
  · rw [show keptB a = true from decide_eq_true (.inl ⟨h1, h2⟩)]
    go_enter Try.func18, Try.ntmps18
    go_wp2
    go_ret
    exact ⟨rfl, rfl⟩
  · rw [show keptB 1652522221600 = true from rfl]
    go_enter Try.func18, Try.ntmps18
    go_wp2
    go_ret
    exact ⟨rfl, rfl⟩
  · rw [show keptB 1652522221601 = true from rfl]
    go_enter Try.func18, Try.ntmps18
    go_wp2
    go_ret
    exact ⟨rfl, rfl⟩
  · rw [show keptB a = false from decide_eq_false (by omega)]
    have d1 : ((a : Int) == 1652522221600) = false := by simp; omega
    have d2 : ((a : Int) == 1652522221601) = false := by simp; omega
    go_enter Try.func18, Try.ntmps18
    go_wp2
    go_ret
    exact ⟨rfl, rfl⟩
  · rw [show keptB a = false from decide_eq_false (by omega)]
    have d1 : ((a : Int) == 1652522221600) = false := by simpa using h2
    have d2 : ((a : Int) == 1652522221601) = false := by simpa using h3
    have d0 : decide ((a : Int) ≤ 1652522221583) = false := by simpa using h1
    clear h2 h3
    go_enter Try.func18, Try.ntmps18
    go_wp2
    go_ret
    exact ⟨rfl, rfl⟩
theorem vid_any (a : Int) (w : World) :
    Calls Try.prog 28 #[.int .i64 a] w fun e w' => e = .returned (.bool (vidB a)) ∧ w = w' := by
  by_cases h1 : 1 ≤ a
  · by_cases h2 : a ≤ 4094
    · rw [show vidB a = true from decide_eq_true ⟨h1, h2⟩]
      go_enter Try.func28, Try.ntmps28
      go_wp2
      go_ret
      exact ⟨rfl, rfl⟩
    · rw [show vidB a = false from decide_eq_false (by omega)]
      go_enter Try.func28, Try.ntmps28
      go_wp2
      go_ret
      exact ⟨rfl, rfl⟩
  · rw [show vidB a = false from decide_eq_false (by omega)]
    go_enter Try.func28, Try.ntmps28
    go_wp2
    go_ret
    exact ⟨rfl, rfl⟩
theorem type_any (a : Int) (w : World) :
    Calls Try.prog 29 #[.int .i64 a] w fun e w' => e = .returned (.bool (typeB a)) ∧ w = w' := by
  by_cases h1 : 1536 ≤ a
  · by_cases h2 : a ≤ 65535
    · rw [show typeB a = true from decide_eq_true ⟨h1, h2⟩]
      go_enter Try.func29, Try.ntmps29
      go_wp2
      go_ret
      exact ⟨rfl, rfl⟩
    · rw [show typeB a = false from decide_eq_false (by omega)]
      go_enter Try.func29, Try.ntmps29
      go_wp2
      go_ret
      exact ⟨rfl, rfl⟩
  · rw [show typeB a = false from decide_eq_false (by omega)]
    go_enter Try.func29, Try.ntmps29
    go_wp2
    go_ret
    exact ⟨rfl, rfl⟩
end Go.Proofs.Ytnhnllkcnpbgoaa





