/- check.Of: a text's sum. Its condition: the table's cells; a text of less than 2^62 bytes. -/
import Derived.Test.YthbnadohldiifaaDoorUp
namespace Go.Proofs.YthbnadohldiifaaDoor
open Go.RowKit

theorem from_take (c : Nat) (l : List UInt8) (k : Nat) (b : UInt8) (hb : l[k]? = some b) : Crc.from_ c (l.take (k + 1)) = Crc.byte (Crc.from_ c (l.take k)) b.toNat := by
  rw [List.take_add_one, hb, Crc.from_append]
  rfl

theorem letter_at {s : ByteArray} {k : Nat} (h : k < s.size) : s.data.toList[k]? = some s[k] := by
  have h' : k < s.data.toList.length := by simpa using h
  rw [List.getElem?_eq_getElem h']
  rfl

set_option maxHeartbeats 1000000 in
theorem of_any (s : ByteArray) (w : World) (hs : s.size < 4611686018427387904) (ht : Tab w) :
    Calls Tryd.prog 28 #[.string s] w fun e w' => e = .returned (.int .i64 ((Crc.of s.data.toList : Nat) : Int)) ∧ w' = w := by
  go_enter Tryd.func28, Tryd.ntmps28
  go_wp2_with fail
  go_loopw [3, 4, 7] (fun c _ i wr => ∃ k : Nat, k ≤ s.size ∧ i = .int .i64 k ∧ c = .int .i64 ((Crc.from_ 65535 (s.data.toList.take k) : Nat) : Int) ∧ wr = w) (fun _ _ i _ => s.size - (intOf i).toNat)
  case atStart => exact ⟨0, by omega, rfl, rfl, rfl⟩
  case round =>
    obtain ⟨k, hk, rfl, rfl, rfl⟩ := hrel
    by_cases hlt : k < s.size
    · have hstep := from_take 65535 s.data.toList k _ (letter_at hlt)
      have hc : Crc.from_ 65535 (s.data.toList.take k) < 65536 := Crc.from_lt _ (by decide)
      generalize Crc.from_ 65535 (s.data.toList.take k) = c at hstep hc ⊢
      have hx := s[k].toNat_lt
      have e1 : bits .xor .i64 (c : Int) ((s[k].toNat : Int) * 256) = ((c ^^^ (s[k].toNat <<< 8) : Nat) : Int) := by
        have e0 : ((s[k].toNat <<< 8 : Nat) : Int) = (s[k].toNat : Int) * 256 := by rw [Nat.shiftLeft_eq]; omega
        rw [← e0]
        exact xor64 hc (Crc.high_lt hx)
      have hd : c ^^^ (s[k].toNat <<< 8) < 65536 := Crc.xor_lt hc (Crc.high_lt hx)
      have e2 : Crc.it 4 (Crc.it 4 (c ^^^ (s[k].toNat <<< 8))) = Crc.byte c s[k].toNat := by
        unfold Crc.byte
        rw [← Crc.it_add]
      rw [← e2] at hstep
      clear e2
      generalize c ^^^ (s[k].toNat <<< 8) = d at *
      go_wp2_with fail
      with_reducible refine (up_any d _ hd ht).mono ?_
      rintro e w' ⟨rfl, rfl⟩
      go_wp2_with fail
      with_reducible refine (up_any _ _ (Crc.it_lt hd) ht).mono ?_
      rintro e w' ⟨rfl, rfl⟩
      go_wp2
      go_roundw
      case rel => exact ⟨k + 1, by omega, by go_num, by rw [hstep], trivial⟩
      case measure => simp [intOf]; omega
    · obtain rfl : k = s.size := by omega
      have e : s.data.toList.take s.size = s.data.toList := List.take_of_length_le (by simp)
      rw [e]
      go_wp2_with fail
      go_ret
      exact ⟨rfl, rfl⟩
end Go.Proofs.YthbnadohldiifaaDoor
