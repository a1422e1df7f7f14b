/- The document's own Show: digit and text. No condition. -/
import Derived.Test.YtdjgenigjfjcfaaAshow
namespace Go.Proofs.Ytdjgenigjfjcfaa
open Go.RowKit

theorem ret_str {a b : ByteArray} (h : a = b) : Ending.returned (.string a) = .returned (.string b) := by rw [h]
theorem digitr_any (n : Nat) (w : World) (h : n < 16) :
    Calls Try.prog 24 #[.int .i64 n] w fun e w' => e = .returned (.string (strL [dig n])) ∧ w = w' := by
  have e1 : IntKind.i64.wrap ((n : Int) + 1) = (n : Int) + 1 := by exact IntWalk.i64_in _ (by omega)
  go_enter Try.func24, Try.ntmps24
  go_wp2
  go_ret
  refine ⟨ret_str ?_, rfl⟩
  have : n = 0 ∨ n = 1 ∨ n = 2 ∨ n = 3 ∨ n = 4 ∨ n = 5 ∨ n = 6 ∨ n = 7 ∨ n = 8 ∨ n = 9 ∨ n = 10 ∨ n = 11 ∨ n = 12 ∨ n = 13 ∨ n = 14 ∨ n = 15 := by omega
  clear h e1
  rcases this with rfl | rfl | rfl | rfl | rfl | rfl | rfl | rfl | rfl | rfl | rfl | rfl | rfl | rfl | rfl | rfl <;> rfl

theorem digitr_int (x : Int) (w : World) (h0 : 0 ≤ x) (h : x < 16) :
    Calls Try.prog 24 #[.int .i64 x] w fun e w' => e = .returned (.string (strL [dig x.toNat])) ∧ w = w' := by
  obtain ⟨n, rfl⟩ := Int.eq_ofNat_of_zero_le h0
  exact digitr_any n w (by omega)
theorem strL_one (n : Nat) : (strL [dig n]).size = 1 := rfl
theorem showr_none (a : Int) (w : World) (ha : ¬ (0 ≤ a ∧ a ≤ 281474976710655)) :
    Calls Try.prog 20 #[.int .i64 a] w fun e w' => e = .returned (.string (strL [])) ∧ w = w' := by
  have HG := Lib.hid (goodB_f ha)
  clear ha
  go_enter Try.func20, Try.ntmps20
  go_wp2_with (go_at_call 10; refine (goodr_any _ _).mono ?_; rw [HG.out]; rintro e w' ⟨rfl, rfl⟩)
  go_ret
  exact ⟨rfl, rfl⟩

set_option maxHeartbeats 1000000 in
theorem showr_good (A : Nat) (w : World) (ha : A ≤ 281474976710655) :
    Calls Try.prog 20 #[.int .i64 A] w fun e w' => e = .returned (.string (strL (refL A 6))) ∧ w = w' := by
  have HG := Lib.hid (goodB_t (a := (A : Int)) (by omega) (by omega))
  go_enter Try.func20, Try.ntmps20
  go_wp2_with (go_at_call 10; refine (goodr_any _ _).mono ?_; rw [HG.out]; rintro e w' ⟨rfl, rfl⟩)
  go_loop [0, 3, 4] (fun a s i => ∃ k : Nat, k ≤ 6 ∧ i = .int .i64 k ∧ a = .int .i64 ((A / 256 ^ k : Nat) : Int) ∧ s = .string (strL (refL A k))) (fun _ _ i => 6 - (intOf i).toNat)
  case atStart => exact ⟨0, by omega, rfl, by simp, rfl⟩
  case round =>
    obtain ⟨k, hk, rfl, rfl, rfl⟩ := hrel
    have hlen := refL_length A k
    by_cases hlt : k < 6
    · obtain ⟨m, hm⟩ : ∃ m, A / 256 ^ k = m := ⟨_, rfl⟩
      have hm1 : m ≤ 281474976710655 := by rw [← hm]; exact Nat.le_trans (Nat.div_le_self _ _) ha
      have HN := Lib.hid (show A / 256 ^ (k + 1) = m / 256 by rw [← hm, Nat.pow_succ, Nat.div_div_eq_div_mul])
      have HS := Lib.hid (show refL A (k + 1) = dig (m % 256 / 16) :: dig (m % 16) :: (if k = 0 then refL A k else 58 :: refL A k) by rw [← hm, show A / 256 ^ k % 16 = A / 256 ^ k % 256 % 16 by omega]; rfl)
      rw [hm]
      have hsz := strL_size (refL A k)
      generalize refL A k = l at *
      have t1 : ((m : Int) % 256 / 16).toNat = m % 256 / 16 := by omega
      have t2 : ((m : Int) % 16).toNat = m % 16 := by omega
      have T1 := Lib.hid t1
      have T2 := Lib.hid t2
      clear t1 t2 hm
      have z1 := strL_one (m % 256 / 16)
      have z2 := strL_one (m % 16)
      have hl2 : l.length ≤ 18 := by omega
      have hN : ((m : Int) / 256) = ((A / 256 ^ (k + 1) : Nat) : Int) := by rw [HN.out]; omega
      have HN2 := Lib.hid hN
      clear hN HN
      by_cases hk0 : k = 0
      · have hk1 : decide (0 < k) = false := by simp; omega
        have hS : strL [dig (m % 256 / 16)] ++ strL [dig (m % 16)] ++ strL l = strL (refL A (k + 1)) := by rw [HS.out, strL_append, strL_append, if_pos hk0]; rfl
        have hz : (strL [dig (m % 256 / 16)] ++ strL [dig (m % 16)]).size = 2 := rfl
        have HS2 := Lib.hid hS
        clear hS HS hk0
        go_wp2_with fail
        refine (digitr_int _ _ (by omega) (by omega)).mono ?_
        rw [T1.out]
        rintro e w' ⟨rfl, rfl⟩
        go_wp2_with fail
        refine (digitr_int _ _ (by omega) (by omega)).mono ?_
        rw [T2.out]
        rintro e w' ⟨rfl, rfl⟩
        go_wp2_with fail
        rw [HS2.out]
        go_round
        case rel => exact ⟨k + 1, by omega, by go_num, by rw [HN2.out], rfl⟩
        case measure => simp [intOf]; omega
      · have hk1 : decide (0 < k) = true := by simp; omega
        have hS : strL [dig (m % 256 / 16)] ++ strL [dig (m % 16)] ++ (⟨#[58]⟩ ++ strL l) = strL (refL A (k + 1)) := by rw [HS.out, show (⟨#[58]⟩ : ByteArray) = strL [58] from rfl, strL_append, strL_append, strL_append, if_neg hk0]; rfl
        have hz : (strL [dig (m % 256 / 16)] ++ strL [dig (m % 16)]).size = 2 := rfl
        have hz2 : ((⟨#[58]⟩ : ByteArray) ++ strL l).size = l.length + 1 := by rw [show (⟨#[58]⟩ : ByteArray) = strL [58] from rfl, strL_append, strL_size]; simp
        have HS2 := Lib.hid hS
        clear hS HS hk0
        go_wp2_with fail
        refine (digitr_int _ _ (by omega) (by omega)).mono ?_
        rw [T1.out]
        rintro e w' ⟨rfl, rfl⟩
        go_wp2_with fail
        refine (digitr_int _ _ (by omega) (by omega)).mono ?_
        rw [T2.out]
        rintro e w' ⟨rfl, rfl⟩
        go_wp2_with fail
        rw [HS2.out]
        go_round
        case rel => exact ⟨k + 1, by omega, by go_num, by rw [HN2.out], rfl⟩
        case measure => simp [intOf]; omega
    · obtain rfl : k = 6 := by omega
      go_wp2
      go_ret
      exact ⟨rfl, rfl⟩
end Go.Proofs.Ytdjgenigjfjcfaa
