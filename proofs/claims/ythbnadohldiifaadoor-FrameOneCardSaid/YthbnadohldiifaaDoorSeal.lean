/- Seal, the program's and the document's. Their conditions: the table's cells; a text of at most 2^20 bytes. -/
import Derived.Test.YthbnadohldiifaaDoorRsum
namespace Go.Proofs.YthbnadohldiifaaDoor
open Go.RowKit

/-- A text as a string. -/
def str (l : List UInt8) : ByteArray := ⟨l.toArray⟩
theorem str_size (l : List UInt8) : (str l).size = l.length := by show l.toArray.size = _; simp
theorem str_of (s : ByteArray) : str s.data.toList = s := by
  apply ByteArray.ext
  simp [str]
theorem str_list (l : List UInt8) : (str l).data.toList = l := by simp [str]
theorem str_append (l m : List UInt8) : str l ++ str m = str (l ++ m) := by
  apply ByteArray.ext
  simp [str]

theorem two_bytes_text (w : World) (c : Nat) (hc : c < 65536) :
    (convert 34 9 (.slice (some ⟨w.heap.size, 0, none⟩) 2 2)).run Tryd.prog (w.alloc (.cells #[.int .u8 ((c : Int) / 256), .int .u8 ((c : Int) % 256)] 5)) =
      .ok (.string (str [UInt8.ofNat (c / 256), UInt8.ofNat (c % 256)])) (w.alloc (.cells #[.int .u8 ((c : Int) / 256), .int .u8 ((c : Int) % 256)] 5)) := by
  refine run_convert_bytes_back _ 34 9 5 ⟨w.heap.size, 0, none⟩ 2 [UInt8.ofNat (c / 256), UInt8.ofNat (c % 256)] Tryd.underlying34 Tryd.underlying5 Tryd.underlying9 fun j hj => ?_
  have hj' : j = 0 ∨ j = 1 := by simp at hj; omega
  have e0 : ((UInt8.ofNat (c / 256)).toNat : Int) = (c : Int) / 256 := by simp; omega
  have e1 : ((UInt8.ofNat (c % 256)).toNat : Int) = (c : Int) % 256 := by simp
  rcases hj' with rfl | rfl
  · show _ = some (Value.int .u8 ((UInt8.ofNat (c / 256)).toNat : Int))
    rw [e0]
    exact (Blk.new w 5 #[.int .u8 ((c : Int) / 256), .int .u8 ((c : Int) % 256)]).cell 0
  · show _ = some (Value.int .u8 ((UInt8.ofNat (c % 256)).toNat : Int))
    rw [e1]
    exact (Blk.new w 5 #[.int .u8 ((c : Int) / 256), .int .u8 ((c : Int) % 256)]).cell 1

theorem sealed_str (s : ByteArray) (c : Nat) (hc : Crc.of s.data.toList = c) : s ++ str [UInt8.ofNat (c / 256), UInt8.ofNat (c % 256)] = str (Crc.sealed s.data.toList) := by
  subst hc
  unfold Crc.sealed
  rw [← str_append, str_of]

set_option maxHeartbeats 1000000 in
theorem seal_any (s : ByteArray) (w : World) (hs : s.size ≤ 1048576) (ht : Tab w) :
    Calls Tryd.prog 18 #[.string s] w fun e w' => e = .returned (.string (str (Crc.sealed s.data.toList))) ∧ Below w.heap.size w w' := by
  have hc := Crc.of_lt s.data.toList
  obtain ⟨c, hcd⟩ : ∃ c, Hid (Crc.of s.data.toList = c) := ⟨_, Lib.hid rfl⟩
  rw [hcd.out] at hc
  have hconv := two_bytes_text w c hc
  have hfin := Lib.hid (sealed_str s c hcd.out)
  have hz : (str [UInt8.ofNat (c / 256), UInt8.ofNat (c % 256)]).size = 2 := by rw [str_size]; rfl
  generalize str [UInt8.ofNat (c / 256), UInt8.ofNat (c % 256)] = two at hconv hfin hz
  go_enter Tryd.func18, Tryd.ntmps18
  go_wp2_with fail
  with_reducible refine (of_any s _ (by omega) ht).mono ?_
  rw [hcd.out]
  rintro e w' ⟨rfl, rfl⟩
  go_wp2_with fail
  rw [hfin.out]
  go_ret
  exact ⟨rfl, (Below.refl _ _).alloc (Nat.le_refl _) _⟩

set_option maxHeartbeats 1000000 in
theorem ref_seal_any (s : ByteArray) (w : World) (hs : s.size ≤ 1048576) :
    Calls Tryd.prog 27 #[.string s] w fun e w' => e = .returned (.string (str (Crc.sealed s.data.toList))) ∧ Below w.heap.size w w' := by
  have hc := Crc.of_lt s.data.toList
  obtain ⟨c, hcd⟩ : ∃ c, Hid (Crc.of s.data.toList = c) := ⟨_, Lib.hid rfl⟩
  rw [hcd.out] at hc
  have hconv := two_bytes_text w c hc
  have hfin := Lib.hid (sealed_str s c hcd.out)
  have hz : (str [UInt8.ofNat (c / 256), UInt8.ofNat (c % 256)]).size = 2 := by rw [str_size]; rfl
  generalize str [UInt8.ofNat (c / 256), UInt8.ofNat (c % 256)] = two at hconv hfin hz
  go_enter Tryd.func27, Tryd.ntmps27
  go_wp2_with fail
  with_reducible refine (ref_of_any s _ (by omega)).mono ?_
  rw [hcd.out]
  rintro e w' ⟨rfl, rfl⟩
  go_wp2_with fail
  rw [hfin.out]
  go_ret
  exact ⟨rfl, (Below.refl _ _).alloc (Nat.le_refl _) _⟩
end Go.Proofs.YthbnadohldiifaaDoor
