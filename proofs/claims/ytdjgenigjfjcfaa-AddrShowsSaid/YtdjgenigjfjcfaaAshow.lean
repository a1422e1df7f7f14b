/- addr.Show: the text of an address; nothing of what is none. No condition. -/
import Derived.Test.YtdjgenigjfjcfaaBuild
import Derived.Test.YtdjgenigjfjcfaaAddr
import Derived.Test.YtdjgenigjfjcfaaText
namespace Go.Proofs.Ytdjgenigjfjcfaa
open Go.RowKit

theorem one_byte (a : Nat) (J : Nat) (hJ : J < 6) (ha : a ≤ 281474976710655) : bits .and .i64 ((a : Int) / 2 ^ min (8 * J) 64) 255 = ((a / 256 ^ J % 256 : Nat) : Int) := by
  have h1 : min (8 * J) 64 = 8 * J := by omega
  have h2 : (2 : Int) ^ (8 * J) = ((256 ^ J : Nat) : Int) := by
    rw [show (256 : Nat) ^ J = 2 ^ (8 * J) from by rw [Nat.pow_mul]]
    exact (Int.natCast_pow 2 (8 * J)).symm
  rw [h1, h2, ← Int.natCast_ediv]
  have hle : a / 256 ^ J ≤ a := Nat.div_le_self _ _
  generalize a / 256 ^ J = m at *
  rw [show (255 : Int) = 2 ^ 8 - 1 from rfl, bits_mask .i64 63 (by decide) (fun n a b => IntWalk.i64_in _ (by omega)) 8 (by decide) (m : Int) (by omega) (by omega)]
  omega

theorem hexd (n : Nat) (h : n < 16) (h' : n < (⟨#[48, 49, 50, 51, 52, 53, 54, 55, 56, 57, 97, 98, 99, 100, 101, 102]⟩ : ByteArray).size) :
    (⟨#[48, 49, 50, 51, 52, 53, 54, 55, 56, 57, 97, 98, 99, 100, 101, 102]⟩ : ByteArray)[n]'h' = dig n := by
  have : n = 0 ∨ n = 1 ∨ n = 2 ∨ n = 3 ∨ n = 4 ∨ n = 5 ∨ n = 6 ∨ n = 7 ∨ n = 8 ∨ n = 9 ∨ n = 10 ∨ n = 11 ∨ n = 12 ∨ n = 13 ∨ n = 14 ∨ n = 15 := by omega
  rcases this with rfl | rfl | rfl | rfl | rfl | rfl | rfl | rfl | rfl | rfl | rfl | rfl | rfl | rfl | rfl | rfl <;> rfl

set_option maxHeartbeats 1000000 in
theorem show_good (a : Nat) (w : World) (ha : a ≤ 281474976710655) :
    Calls Try.prog 18 #[.int .i64 a] w fun e w' => e = .returned (.string ⟨(showL a 6).toArray⟩) ∧ Below w.heap.size w w' := by
  have HG := Lib.hid (goodB_t (a := (a : Int)) (by omega) (by omega))
  go_enter Try.func18, Try.ntmps18
  go_wp2_with (go_at_call 9; refine (good_any _ _).mono ?_; rw [HG.out]; rintro e w' ⟨rfl, rfl⟩)
  go_loopw [4, 5, 9] (fun _ _ i wr => ∃ k : Nat, k ≤ 6 ∧ i = .int .i64 k ∧ IsB w.heap.size w.heap.size (showL a k) wr ∧ Below w.heap.size w wr) (fun _ _ i _ => 6 - (intOf i).toNat)
  case atStart => exact ⟨0, by omega, rfl, IsB.new w, (Below.refl _ w).alloc (Nat.le_refl _) _⟩
  case round =>
    obtain ⟨k, hk, rfl, hb, hbel⟩ := hrel
    have hsz := hbel.size
    have hlen := showL_length a k
    by_cases hlt : k < 6
    · obtain ⟨J, hJ⟩ : ∃ J : Nat, J + k = 5 := ⟨5 - k, by omega⟩
      have e1 : IntKind.i64.wrap (5 - (k : Int)) = (J : Int) := by rw [IntWalk.i64_in _ (by omega)]; omega
      have e2 : IntKind.i64.wrap (8 * (J : Int)) = 8 * (J : Int) := by exact IntWalk.i64_in _ (by omega)
      have e3 : (0 : Int) ≤ 8 * (J : Int) := by omega
      obtain ⟨one, hone⟩ : ∃ one : Nat, a / 256 ^ J % 256 = one := ⟨_, rfl⟩
      have ho1 : one < 256 := by omega
      have e4 := one_byte a J (by omega) ha
      rw [hone] at e4
      have HS := Lib.hid (show showL a (k + 1) = showL a k ++ (if k = 0 then [] else [58]) ++ [dig (one / 16), dig (one % 16)] by rw [← hone, show J = 5 - k by omega]; rfl)
      have e5 : bits .and .i64 (one : Int) 15 = ((one % 16 : Nat) : Int) := by rw [show (15 : Int) = 2 ^ 4 - 1 from rfl, bits_mask .i64 63 (by decide) (fun n a b => IntWalk.i64_in _ (by omega)) 4 (by decide) (one : Int) (by omega) (by omega)]; omega
      clear hone
      by_cases hk0 : k = 0
      · subst hk0
        obtain rfl : J = 5 := by omega
        replace e4 : bits .and .i64 ((a : Int) / 1099511627776) 255 = (one : Int) := e4
        clear e1 e2 e3 hlt hk hJ
        go_wp2_with fail
        refine (sb_byte _ _ _ _ _ hb (by omega) (by omega)).mono ?_
        rintro e w2 ⟨rfl, hb2, bel2⟩
        have hs2 := bel2.size
        go_wp2_with fail
        refine (sb_byte _ _ _ _ _ hb2 (by simp; omega) (by omega)).mono ?_
        rintro e w3 ⟨rfl, hb3, bel3⟩
        rw [hexd _ (by omega), hexd _ (by omega)] at hb3
        have hfin : IsB w.heap.size w.heap.size (showL a (0 + 1)) w3 := by rw [HS.out]; simpa using hb3
        have hbl := (hbel.trans bel2).trans bel3
        clear hb hbel hsz hb2 hb3 bel2 bel3 HS
        go_wp2
        go_roundw
        case rel => exact ⟨0 + 1, by omega, by go_num, hfin, hbl⟩
        case measure => simp [intOf]
      · clear hJ
        have hk1 : decide (0 < (k : Int)) = true := by simp; omega
        go_wp2_with fail
        refine (sb_byte _ _ _ 58 _ hb (by omega) (by omega)).mono ?_
        rintro e w1 ⟨rfl, hb1, bel1⟩
        have hs1 := bel1.size
        go_wp2_with fail
        refine (sb_byte _ _ _ _ _ hb1 (by simp; omega) (by omega)).mono ?_
        rintro e w2 ⟨rfl, hb2, bel2⟩
        have hs2 := bel2.size
        go_wp2_with fail
        refine (sb_byte _ _ _ _ _ hb2 (by simp; omega) (by omega)).mono ?_
        rintro e w3 ⟨rfl, hb3, bel3⟩
        rw [hexd _ (by omega), hexd _ (by omega)] at hb3
        have hfin : IsB w.heap.size w.heap.size (showL a (k + 1)) w3 := by rw [HS.out]; simpa [hk0] using hb3
        have hbl := ((hbel.trans bel1).trans bel2).trans bel3
        clear hb1 bel1 hb hbel hsz hb2 hb3 bel2 bel3 HS
        go_wp2
        go_roundw
        case rel => exact ⟨k + 1, by omega, by go_num, hfin, hbl⟩
        case measure => simp [intOf]; omega
    · obtain rfl : k = 6 := by omega
      go_wp2_with fail
      refine (sb_text _ _ _ _ hb (by omega)).mono ?_
      rintro e w1 ⟨rfl, b1⟩
      go_wp2_with fail
      go_ret
      exact ⟨rfl, hbel.trans b1⟩
theorem show_none (a : Int) (w : World) (ha : ¬ (0 ≤ a ∧ a ≤ 281474976710655)) :
    Calls Try.prog 18 #[.int .i64 a] w fun e w' => e = .returned (.string ⟨#[]⟩) ∧ Below w.heap.size w w' := by
  have HG := Lib.hid (goodB_f ha)
  clear ha
  go_enter Try.func18, Try.ntmps18
  go_wp2_with (go_at_call 9; refine (good_any _ _).mono ?_; rw [HG.out]; rintro e w' ⟨rfl, rfl⟩)
  go_ret
  exact ⟨rfl, Below.refl _ _⟩

/-- The law's own first look. -/
theorem alive2_any (w : World) :
    Calls Try.prog 8 #[] w fun e w' => e = .returned (.bool true) ∧ Below w.heap.size w w' := by
  have hs : showL 1 6 = [48, 48, 58, 48, 48, 58, 48, 48, 58, 48, 48, 58, 48, 48, 58, 48, 49] := by decide
  have HK := Lib.hid (show keptB 1652522221568 = true from rfl)
  have HV := Lib.hid (show vidB 1 = true from rfl)
  have HS := Lib.hid hs
  clear hs
  go_enter Try.func8, Try.ntmps8
  go_wp2_with fail
  refine (show_good 1 _ (by decide)).mono ?_
  rw [HS.out]
  rintro e w1 ⟨rfl, b1⟩
  go_wp2_with (first
    | (go_at_call 13; refine (kept_any _ _).mono ?_; rw [HK.out]; rintro e w' ⟨rfl, rfl⟩)
    | (go_at_call 15; refine (vid_any _ _).mono ?_; rw [HV.out]; rintro e w' ⟨rfl, rfl⟩))
  go_ret
  exact ⟨rfl, b1⟩
end Go.Proofs.Ytdjgenigjfjcfaa
