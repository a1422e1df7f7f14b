/- The document's own Number: a number's lowest bytes, the highest first. No condition. -/
import Derived.Test.YtoigapanhbmjlaaBmath
namespace Go.Proofs.Ytoigapanhbmjlaa
open Go.RowKit

def low (n : Int) (k : Nat) : Nat := (n % 18446744073709551616).toNat / 256 ^ k
theorem low_succ (n : Int) (k : Nat) : low n (k + 1) = low n k / 256 := by
  unfold low
  rw [Nat.pow_succ, Nat.div_div_eq_div_mul]
theorem low_lt (n : Int) (k : Nat) : low n k < 18446744073709551616 := by
  unfold low
  exact Nat.lt_of_le_of_lt (Nat.div_le_self _ _) (by omega)
theorem low_byte (n : Int) (k : Nat) (h : k < 8) : low n k % 256 = (byteAt n k).toNat := by
  have hb := byteAt_toNat n k
  unfold low
  have hk : k = 0 ∨ k = 1 ∨ k = 2 ∨ k = 3 ∨ k = 4 ∨ k = 5 ∨ k = 6 ∨ k = 7 := by omega
  rcases hk with rfl | rfl | rfl | rfl | rfl | rfl | rfl | rfl
  · show (n % 18446744073709551616).toNat / 1 % 256 = _; change _ = n / 1 % 256 at hb; omega
  · show (n % 18446744073709551616).toNat / 256 % 256 = _; change _ = n / 256 % 256 at hb; omega
  · show (n % 18446744073709551616).toNat / 65536 % 256 = _; change _ = n / 65536 % 256 at hb; omega
  · show (n % 18446744073709551616).toNat / 16777216 % 256 = _; change _ = n / 16777216 % 256 at hb; omega
  · show (n % 18446744073709551616).toNat / 4294967296 % 256 = _; change _ = n / 4294967296 % 256 at hb; omega
  · show (n % 18446744073709551616).toNat / 1099511627776 % 256 = _; change _ = n / 1099511627776 % 256 at hb; omega
  · show (n % 18446744073709551616).toNat / 281474976710656 % 256 = _; change _ = n / 281474976710656 % 256 at hb; omega
  · show (n % 18446744073709551616).toNat / 72057594037927936 % 256 = _; change _ = n / 72057594037927936 % 256 at hb; omega

def strOf (l : List UInt8) : ByteArray := ⟨l.toArray⟩
theorem strOf_size (l : List UInt8) : (strOf l).size = l.length := by show l.toArray.size = _; simp

theorem one_byte_text (w : World) (c : UInt8) : (convert 44 9 (.slice (some ⟨w.heap.size, 0, none⟩) 1 1)).run Try.prog (w.alloc (.cells #[.int .u8 (c.toNat : Int)] 5)) = .ok (.string (strOf [c])) (w.alloc (.cells #[.int .u8 (c.toNat : Int)] 5)) := by
  refine run_convert_bytes_back _ 44 9 5 ⟨w.heap.size, 0, none⟩ 1 [c] Try.underlying44 Try.underlying5 Try.underlying9 fun j hj => ?_
  have : j = 0 := by simpa using hj
  subst this
  exact (Blk.new w 5 #[.int .u8 (c.toNat : Int)]).cell 0

theorem text_low (n : Int) (k : Nat) (h : k < 8) (wr : World) : (convert 44 9 (.slice (some ⟨wr.heap.size, 0, none⟩) 1 1)).run Try.prog (wr.alloc (.cells #[.int .u8 ((low n k : Int) % 256)] 5)) = .ok (.string (strOf [byteAt n k])) (wr.alloc (.cells #[.int .u8 ((low n k : Int) % 256)] 5)) := by
  have hbk := low_byte n k h
  have e : (low n k : Int) % 256 = ((byteAt n k).toNat : Int) := by omega
  rw [e]
  exact one_byte_text wr (byteAt n k)
theorem low_quo (n : Int) (k : Nat) : IntKind.u64.wrap ((low n k : Int) / 256) = ((low n (k + 1) : Nat) : Int) := by
  rw [IntKind.wrap_u64, low_succ]
  have := low_lt n k
  omega

set_option maxHeartbeats 1000000 in
theorem number_any (size n : Int) (w : World) :
    Calls Try.prog 30 #[.int .i64 size, .int .i64 n] w fun e w' => e = .returned (.string (strOf (be n (near size 8).toNat))) ∧ Below w.heap.size w w' := by
  obtain ⟨K, hK⟩ : ∃ K : Nat, near size 8 = K := ⟨(near size 8).toNat, by have := near_is size 8; omega⟩
  have hK8 : K ≤ 8 := by have := near_is size 8; omega
  have hK1 : 1 ≤ K := by have := near_is size 8; omega
  have hk2 : (near size 8).toNat = K := by omega
  rw [hk2]
  have hcase : (size < 1 ∧ K = 1) ∨ (8 < size ∧ K = 8) ∨ size = K := by have := near_is size 8; omega
  have hb0 : IntKind.u64.wrap n = ((low n 0 : Nat) : Int) := by rw [IntKind.wrap_u64]; unfold low; show _ = (((n % 18446744073709551616).toNat / 1 : Nat) : Int); omega
  clear hk2 hK
  rcases hcase with ⟨hs, rfl⟩ | ⟨hs, rfl⟩ | rfl
  · have d1 : decide (size < 1) = true := by simpa using hs
    go_enter Try.func30, Try.ntmps30
    go_wp2_with fail
    go_loopw [5, 6, 7] (fun s u i wr => ∃ k : Nat, k ≤ 1 ∧ i = .int .i64 k ∧ u = .int .u64 (low n k : Nat) ∧ s = .string (strOf (be n k)) ∧ Below w.heap.size w wr) (fun _ _ i _ => 1 - (intOf i).toNat)
    case atStart => exact ⟨0, Nat.zero_le _, rfl, rfl, rfl, Below.refl _ _⟩
    case round =>
      obtain ⟨k, hk, rfl, rfl, rfl, hb⟩ := hrel
      by_cases hlt : k < 1
      · have hcv := text_low n k (by omega) wr
        have hs1 := strOf_size [byteAt n k]
        have hs2 := strOf_size (be n k)
        have hs3 : (strOf [byteAt n k]).size + (strOf (be n k)).size ≤ 9 := by rw [hs1, hs2, be_length]; simp; omega
        have HLS := Lib.hid (low_quo n k)
        clear hs1 hs2
        go_wp2_with fail
        have hbb := hb.alloc hb.size (.cells #[.int .u8 ((low n k : Int) % 256)] 5)
        go_roundw
        case rel => exact ⟨k + 1, by omega, by go_num, by rw [HLS.out], rfl, hbb⟩
        case measure => simp [intOf]; omega
      · obtain rfl : k = 1 := by omega
        go_wp2_with fail
        go_ret
        exact ⟨rfl, hb⟩
  · have d1 : decide (size < 1) = false := by simp; omega
    have d2 : decide (8 < size) = true := by simp; omega
    go_enter Try.func30, Try.ntmps30
    go_wp2_with fail
    go_loopw [5, 6, 7] (fun s u i wr => ∃ k : Nat, k ≤ 8 ∧ i = .int .i64 k ∧ u = .int .u64 (low n k : Nat) ∧ s = .string (strOf (be n k)) ∧ Below w.heap.size w wr) (fun _ _ i _ => 8 - (intOf i).toNat)
    case atStart => exact ⟨0, Nat.zero_le _, rfl, rfl, rfl, Below.refl _ _⟩
    case round =>
      obtain ⟨k, hk, rfl, rfl, rfl, hb⟩ := hrel
      by_cases hlt : k < 8
      · have hcv := text_low n k (by omega) wr
        have hs1 := strOf_size [byteAt n k]
        have hs2 := strOf_size (be n k)
        have hs3 : (strOf [byteAt n k]).size + (strOf (be n k)).size ≤ 9 := by rw [hs1, hs2, be_length]; simp; omega
        have HLS := Lib.hid (low_quo n k)
        clear hs1 hs2
        go_wp2_with fail
        have hbb := hb.alloc hb.size (.cells #[.int .u8 ((low n k : Int) % 256)] 5)
        go_roundw
        case rel => exact ⟨k + 1, by omega, by go_num, by rw [HLS.out], rfl, hbb⟩
        case measure => simp [intOf]; omega
      · obtain rfl : k = 8 := by omega
        go_wp2_with fail
        go_ret
        exact ⟨rfl, hb⟩
  · have d1 : decide ((K : Int) < 1) = false := by simp; omega
    have d2 : decide (8 < (K : Int)) = false := by simp; omega
    go_enter Try.func30, Try.ntmps30
    go_wp2_with fail
    go_loopw [5, 6, 7] (fun s u i wr => ∃ k : Nat, k ≤ K ∧ i = .int .i64 k ∧ u = .int .u64 (low n k : Nat) ∧ s = .string (strOf (be n k)) ∧ Below w.heap.size w wr) (fun _ _ i _ => K - (intOf i).toNat)
    case atStart => exact ⟨0, Nat.zero_le _, rfl, rfl, rfl, Below.refl _ _⟩
    case round =>
      obtain ⟨k, hk, rfl, rfl, rfl, hb⟩ := hrel
      by_cases hlt : k < K
      · have hcv := text_low n k (by omega) wr
        have hs1 := strOf_size [byteAt n k]
        have hs2 := strOf_size (be n k)
        have hs3 : (strOf [byteAt n k]).size + (strOf (be n k)).size ≤ 9 := by rw [hs1, hs2, be_length]; simp; omega
        have HLS := Lib.hid (low_quo n k)
        clear hs1 hs2
        go_wp2_with fail
        have hbb := hb.alloc hb.size (.cells #[.int .u8 ((low n k : Int) % 256)] 5)
        go_roundw
        case rel => exact ⟨k + 1, by omega, by go_num, by rw [HLS.out], rfl, hbb⟩
        case measure => simp [intOf]; omega
      · obtain rfl : k = K := by omega
        go_wp2_with fail
        go_ret
        exact ⟨rfl, hb⟩
end Go.Proofs.Ytoigapanhbmjlaa
