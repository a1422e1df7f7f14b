/- check.Strip: what stands ahead of the sum, if the last two bytes are the sum. Its conditions: the table's cells; a text of at most 2^20 bytes. -/
import Derived.Test.YthbnadohldiifaaDoorSeal
namespace Go.Proofs.YthbnadohldiifaaDoor
open Go.RowKit

theorem head_str (s : ByteArray) (n : Nat) : s.extract 0 n = str (s.data.toList.take n) := by
  apply ByteArray.ext
  apply Array.ext'
  simp [str]

theorem unlike_lists {s t : ByteArray} (h : ¬ s = t) : (s.toList == t.toList) = false := by
  rw [beq_eq_false_iff_ne]
  intro e
  apply h
  rw [ByteArray.toList_eq, ByteArray.toList_eq] at e
  exact ByteArray.ext (Array.ext' e)

theorem sealed_head (s : ByteArray) (h2 : 2 ≤ s.size) : str (Crc.sealed (s.data.toList.take (s.size - 2))) = s ↔ Crc.of s.data.toList = 0 := by
  have hl : s.data.toList.length = s.size := by simp
  rw [← Crc.sealed_iff (by omega), hl]
  constructor
  · intro h
    have := congrArg (fun t : ByteArray => t.data.toList) h
    simpa [str_list] using this
  · intro h
    rw [h, str_of]

set_option maxHeartbeats 1000000 in
theorem strip_good (s : ByteArray) (w : World) (h2 : 2 ≤ s.size) (hs : s.size ≤ 1048576) (ht : Tab w) (h0 : Crc.of s.data.toList = 0) :
    Calls Tryd.prog 24 #[.string s] w fun e w' => e = .returned (.tuple #[.string (str (s.data.toList.take (s.size - 2))), .bool true]) ∧ Below w.heap.size w w' := by
  have hT := Lib.hid (head_str s (s.size - 2))
  have hU := Lib.hid ((sealed_head s h2).2 h0)
  have hz : (str (s.data.toList.take (s.size - 2))).size ≤ 1048576 := by
    rw [str_size, List.length_take]
    omega
  go_enter Tryd.func24, Tryd.ntmps24
  go_wp2_with fail
  rw [hT.out]
  with_reducible refine (seal_any _ _ hz ht).mono ?_
  rw [str_list, hU.out]
  rintro e w' ⟨rfl, hb⟩
  go_wp2
  go_ret2
  exact ⟨rfl, hb⟩

set_option maxHeartbeats 1000000 in
theorem strip_long (s : ByteArray) (w : World) (h2 : 2 ≤ s.size) (hs : s.size ≤ 1048576) (ht : Tab w) (h0 : Crc.of s.data.toList ≠ 0) :
    Calls Tryd.prog 24 #[.string s] w fun e w' => e = .returned (.tuple #[.string ⟨#[]⟩, .bool false]) ∧ Below w.heap.size w w' := by
  have hT := Lib.hid (head_str s (s.size - 2))
  have hU := Lib.hid (mt (sealed_head s h2).1 h0)
  have hz : (str (s.data.toList.take (s.size - 2))).size ≤ 1048576 := by
    rw [str_size, List.length_take]
    omega
  go_enter Tryd.func24, Tryd.ntmps24
  go_wp2_with fail
  rw [hT.out]
  with_reducible refine (seal_any _ _ hz ht).mono ?_
  rw [str_list]
  rintro e w' ⟨rfl, hb⟩
  generalize str (Crc.sealed (s.data.toList.take (s.size - 2))) = U at *
  have hq := unlike_lists hU.out
  go_wp2
  go_ret2
  exact ⟨rfl, hb⟩

theorem strip_short (s : ByteArray) (w : World) (h2 : s.size < 2) :
    Calls Tryd.prog 24 #[.string s] w fun e w' => e = .returned (.tuple #[.string ⟨#[]⟩, .bool false]) ∧ Below w.heap.size w w' := by
  go_enter Tryd.func24, Tryd.ntmps24
  go_wp2
  go_ret2
  exact ⟨rfl, Below.refl _ _⟩
end Go.Proofs.YthbnadohldiifaaDoor
