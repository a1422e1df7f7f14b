/- The document's sum, bit by bit: it is the same number. Its condition: a text of less than 2^62 bytes. -/
import Derived.Test.YthbnadohldiifaaDoorCsum
namespace Go.Proofs.YthbnadohldiifaaDoor
open Go.RowKit

set_option maxHeartbeats 1000000 in
theorem ref_of_any (s : ByteArray) (w : World) (hs : s.size < 4611686018427387904) :
    Calls Tryd.prog 38 #[.string s] w fun e w' => e = .returned (.int .i64 ((Crc.of s.data.toList : Nat) : Int)) ∧ w' = w := by
  go_enter Tryd.func38, Tryd.ntmps38
  go_wp2_with fail
  go_loopw [3, 4, 5] (fun c i _ wr => ∃ k : Nat, k ≤ s.size ∧ i = .int .i64 k ∧ c = .int .i64 ((Crc.from_ 65535 (s.data.toList.take k) : Nat) : Int) ∧ wr = w) (fun _ i _ _ => s.size - (intOf i).toNat)
  case atStart => exact ⟨0, by omega, rfl, rfl, rfl⟩
  case round =>
    obtain ⟨k, hk, rfl, rfl, rfl⟩ := hrel
    by_cases hlt : k < s.size
    · have hstep := from_take 65535 s.data.toList k _ (letter_at hlt)
      have hc : Crc.from_ 65535 (s.data.toList.take k) < 65536 := Crc.from_lt _ (by decide)
      generalize Crc.from_ 65535 (s.data.toList.take k) = c at hstep hc ⊢
      have hx := s[k].toNat_lt
      have e1 : bits .xor .i64 (c : Int) ((s[k].toNat : Int) * 256) = ((c ^^^ (s[k].toNat <<< 8) : Nat) : Int) := by
        have e0 : ((s[k].toNat <<< 8 : Nat) : Int) = (s[k].toNat : Int) * 256 := by rw [Nat.shiftLeft_eq]; omega
        rw [← e0]
        exact xor64 hc (Crc.high_lt hx)
      have hd : c ^^^ (s[k].toNat <<< 8) < 65536 := Crc.xor_lt hc (Crc.high_lt hx)
      have e2 : Crc.it 8 (c ^^^ (s[k].toNat <<< 8)) = Crc.byte c s[k].toNat := rfl
      rw [← e2] at hstep
      clear e2
      generalize c ^^^ (s[k].toNat <<< 8) = d at *
      go_wp2_with fail
      go_loopw [3, 5] (fun c j wr' => ∃ m : Nat, m ≤ 8 ∧ j = .int .i64 m ∧ c = .int .i64 ((Crc.it m d : Nat) : Int) ∧ wr' = wr) (fun _ j _ => 8 - (intOf j).toNat)
      case atStart => exact ⟨0, by omega, rfl, rfl, rfl⟩
      case round =>
        obtain ⟨m, hm, rfl, rfl, rfl⟩ := hrel
        by_cases hm8 : m < 8
        · have hlt' : Crc.it m d < 65536 := Crc.it_lt hd
          have hnext : Crc.it (m + 1) d = Crc.step (Crc.it m d) := Crc.it_add m 1 d
          have href := Crc.step_ref hlt'
          rw [← hnext] at href
          generalize Crc.it m d = z at *
          by_cases hb : 65536 ≤ z * 2
          · rw [if_pos hb] at href
            have e3 : bits .xor .i64 ((z : Int) * 2 - 65536) 4129 = ((Crc.it (m + 1) d : Nat) : Int) := by
              rw [← href, show ((z : Int) * 2 - 65536) = ((z * 2 - 65536 : Nat) : Int) by omega]
              exact xor64 (by omega) (by decide)
            have hb' : decide ((65536 : Int) ≤ (z : Int) * 2) = true := by simp; omega
            go_wp2
            go_roundw
            case rel => exact ⟨m + 1, by omega, by go_num, by rw [hnext], trivial⟩
            case measure => simp [intOf]; omega
          · rw [if_neg hb] at href
            have hb' : decide ((65536 : Int) ≤ (z : Int) * 2) = false := by simp; omega
            go_wp2
            go_roundw
            case rel => exact ⟨m + 1, by omega, by go_num, by rw [← href]; go_num, trivial⟩
            case measure => simp [intOf]; omega
        · obtain rfl : m = 8 := by omega
          rw [← hstep]
          go_wp2
          go_roundw
          case rel => exact ⟨k + 1, by omega, by go_num, rfl, trivial⟩
          case measure => simp [intOf]; omega
    · obtain rfl : k = s.size := by omega
      have e : s.data.toList.take s.size = s.data.toList := List.take_of_length_le (by simp)
      rw [e]
      go_wp2_with fail
      go_ret
      exact ⟨rfl, rfl⟩
end Go.Proofs.YthbnadohldiifaaDoor
