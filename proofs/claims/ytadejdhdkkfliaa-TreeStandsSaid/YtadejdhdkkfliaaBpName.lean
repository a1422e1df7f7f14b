/- bpdu's names: Id, split, Bridge, and the document's Bridge. No condition but an int's range. -/
import Derived.Test.YtadejdhdkkfliaaBpNm
namespace Go.Proofs.Ytadejdhdkkfliaa
open Go.RowKit

theorem join_name {r m : Int} (h0 : 0 ≤ r) (h1 : r ≤ 15) (h2 : 0 ≤ m) (h3 : m ≤ 281474976710655) : bits .or .i64 (r * 281474976710656) m = r * 281474976710656 + m := by
  obtain ⟨a, rfl⟩ := Int.eq_ofNat_of_zero_le h0
  obtain ⟨b, rfl⟩ := Int.eq_ofNat_of_zero_le h2
  have ha : (BitVec.ofInt 64 ((a : Int) * 281474976710656)).toNat = a * 281474976710656 := by
    rw [show ((a : Int) * 281474976710656) = ((a * 281474976710656 : Nat) : Int) by omega, BitVec.ofInt_natCast, BitVec.toNat_ofNat]; exact Nat.mod_eq_of_lt (by omega)
  have hb : (BitVec.ofInt 64 (b : Int)).toNat = b := by
    rw [BitVec.ofInt_natCast, BitVec.toNat_ofNat]; exact Nat.mod_eq_of_lt (by omega)
  show IntKind.i64.wrap ((BitVec.ofInt 64 ((a : Int) * 281474976710656) ||| BitVec.ofInt 64 (b : Int)).toNat : Int) = _
  have hj : a * 281474976710656 ||| b = a * 281474976710656 + b := nat_join 48 (a * 281474976710656) b (by omega) (by omega)
  rw [BitVec.toNat_or, ha, hb, hj, IntKind.wrap_i64]
  omega

theorem id_any (rank mac : Int) (w : World) :
    Calls Try.prog 53 #[.int .i64 rank, .int .i64 mac] w fun e w' => e = .returned (.int .i64 (idOf rank mac)) ∧ w = w' := by
  by_cases h0 : rank < 0
  · rw [show idOf rank mac = 0 from if_neg (by omega)]
    go_enter Try.func53, Try.ntmps53
    go_wp2
    go_ret
    exact ⟨rfl, rfl⟩
  by_cases h1 : 15 < rank
  · rw [show idOf rank mac = 0 from if_neg (by omega)]
    go_enter Try.func53, Try.ntmps53
    go_wp2
    go_ret
    exact ⟨rfl, rfl⟩
  cases hg : goodB mac
  · rw [show idOf rank mac = 0 from if_neg (by simp [hg])]
    have HG := Lib.hid hg
    clear hg
    go_enter Try.func53, Try.ntmps53
    go_wp2_with (go_at_call 69; refine (good_any _ _).mono ?_; rw [HG.out]; rintro e w' ⟨rfl, rfl⟩)
    go_ret
    exact ⟨rfl, rfl⟩
  cases hm : manyB mac
  · have HG := Lib.hid hg
    have HM := Lib.hid hm
    rw [show idOf rank mac = rank * 281474976710656 + mac from if_pos ⟨by omega, by omega, hg, hm⟩]
    simp only [goodB, decide_eq_true_eq] at hg
    have HJ := join_name (r := rank) (m := mac) (by omega) (by omega) hg.1 hg.2
    clear hg hm
    go_enter Try.func53, Try.ntmps53
    go_wp2_with (first | (go_at_call 69; refine (good_any _ _).mono ?_; rw [HG.out]; rintro e w' ⟨rfl, rfl⟩) | (go_at_call 70; refine (many_any _ _).mono ?_; rw [HM.out]; rintro e w' ⟨rfl, rfl⟩))
    go_ret
    exact ⟨rfl, rfl⟩
  · have HG := Lib.hid hg
    have HM := Lib.hid hm
    rw [show idOf rank mac = 0 from if_neg (by simp [hm])]
    clear hg hm
    go_enter Try.func53, Try.ntmps53
    go_wp2_with (first | (go_at_call 69; refine (good_any _ _).mono ?_; rw [HG.out]; rintro e w' ⟨rfl, rfl⟩) | (go_at_call 70; refine (many_any _ _).mono ?_; rw [HM.out]; rintro e w' ⟨rfl, rfl⟩))
    go_ret
    exact ⟨rfl, rfl⟩

/-- The address of a name. -/
def macOf (a : Int) : Int := bits .and .i64 a 281474976710655
theorem macOf_pos {a : Int} (h : 0 ≤ a) (h' : a ≤ 9223372036854775807) : macOf a = a % 281474976710656 := by
  unfold macOf
  rw [show (281474976710655 : Int) = 2 ^ 48 - 1 from rfl, bits_mask .i64 63 (by decide) (fun n a b => IntWalk.i64_in _ (by omega)) 48 (by decide) _ (by omega) (by omega)]
  rfl
theorem split_any (a : Int) (w : World) :
    Calls Try.prog 52 #[.int .i64 a] w fun e w' => e = .returned (.tuple #[.int .i64 (a / 281474976710656), .int .i64 (macOf a)]) ∧ w = w' := by
  obtain ⟨m, hm⟩ : ∃ m, bits .and .i64 a 281474976710655 = m := ⟨_, rfl⟩
  have HM := Lib.hid hm
  go_enter Try.func52, Try.ntmps52
  go_wp2
  go_ret2
  exact ⟨by rw [show macOf a = m from HM.out]; rfl, rfl⟩
theorem bridge_any (a : Int) (ha : a ≤ 9223372036854775807) (w : World) :
    Calls Try.prog 34 #[.int .i64 a] w fun e w' => e = .returned (.bool (nameB a)) ∧ w = w' := by
  by_cases hz : a = 0
  · subst hz
    rw [show nameB 0 = false from rfl]
    go_enter Try.func34, Try.ntmps34
    go_wp2_with (go_at_call 52; refine (split_any _ _).mono ?_; rintro e w' ⟨rfl, rfl⟩)
    go_ret
    exact ⟨rfl, rfl⟩
  obtain ⟨i, hi⟩ : ∃ i, idOf (a / 281474976710656) (macOf a) = i := ⟨_, rfl⟩
  have hn : nameB a = (i == a) := by
    by_cases hp : a < 0
    · rw [nameB_neg (by omega), ← hi, show idOf _ _ = 0 from if_neg (by omega)]
      symm
      simpa using fun h => hz h.symm
    · rw [macOf_pos (by omega) ha] at hi
      have := nameB_is a
      rw [hi] at this
      by_cases e : i = a
      · rw [this.2 ⟨hz, e⟩]; simpa using e
      · have h1 : ¬ nameB a = true := fun h => e (this.1 h).2
        rw [Bool.eq_false_iff.2 h1]
        symm
        simpa using e
  have d0 : (a != 0) = true := by simpa using hz
  have HI := Lib.hid hi
  rw [hn]
  clear hn hi hz
  go_enter Try.func34, Try.ntmps34
  go_wp2_with (first | (go_at_call 52; refine (split_any _ _).mono ?_; rintro e w' ⟨rfl, rfl⟩) | (go_at_call 53; refine (id_any _ _ _).mono ?_; rw [HI.out]; rintro e w' ⟨rfl, rfl⟩))
  go_ret
  exact ⟨rfl, rfl⟩
theorem rbridge_any (a : Int) (ha : a ≤ 9223372036854775807) (w : World) :
    Calls Try.prog 11 #[.int .i64 a] w fun e w' => e = .returned (.bool (nameB a)) ∧ w = w' := by
  by_cases h0 : a ≤ 0
  · rw [nameB_neg h0]
    go_enter Try.func11, Try.ntmps11
    go_wp2
    go_ret
    exact ⟨rfl, rfl⟩
  have hq : wrap64 (a.tdiv 281474976710656) = a / 281474976710656 := by
    rw [Int.tdiv_eq_ediv_of_nonneg (by omega)]
    exact IntWalk.wrap64_in (a / 281474976710656) (by omega)
  obtain ⟨q, hqq⟩ : ∃ q, a / 281474976710656 = q := ⟨_, rfl⟩
  by_cases h1 : 15 < a / 281474976710656
  · rw [show nameB a = false from decide_eq_false (by omega)]
    rw [hqq] at hq h1
    have HQ := Lib.hid hqq
    clear hqq ha
    go_enter Try.func11, Try.ntmps11
    go_wp2
    go_ret
    exact ⟨rfl, rfl⟩
  have hn : manyB (a % 281474976710656) = !nameB a := by
    rw [manyB_in (by omega) (by omega), nameB]
    by_cases h : a / 1099511627776 % 2 = 1
    · rw [decide_eq_true (by omega), decide_eq_false (by omega)]; rfl
    · rw [decide_eq_false (by omega), decide_eq_true (by omega)]; rfl
  have HN := Lib.hid hn
  have h1' : q ≤ 15 := by omega
  rw [hqq] at hq
  clear hn h1 hqq ha
  go_enter Try.func11, Try.ntmps11
  go_wp2_with (go_at_call 37; refine (manyr_any _ _).mono ?_; rw [HN.out]; rintro e w' ⟨rfl, rfl⟩)
  go_ret
  exact ⟨by simp, rfl⟩
end Go.Proofs.Ytadejdhdkkfliaa
