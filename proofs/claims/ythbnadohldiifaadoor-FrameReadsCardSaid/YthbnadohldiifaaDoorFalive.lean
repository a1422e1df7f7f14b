/- What is sealed of a frame that can be is read as that frame; what is spoilt isn't read; the law's own first look. Its condition: the table's cells. -/
import Derived.Test.YthbnadohldiifaaDoorFread
import Derived.Test.YthbnadohldiifaaDoorFbytes
namespace Go.Proofs.YthbnadohldiifaaDoor
open Go.RowKit

theorem fr_small {f : Fr} (h : f.good = true) : f.data.size ≤ 400 := by
  simp only [Fr.good, Bool.and_eq_true, decide_eq_true_eq] at h
  omega
theorem sealed_size (f : Fr) : (str (Crc.sealed f.raw)).size = f.raw.length + 2 := by rw [str_size, Crc.sealed_length]
theorem ahead_sealed (l : List UInt8) : ahead (str (Crc.sealed l)) = ⟨l.toArray⟩ := by
  unfold ahead
  rw [str_size, str_list, Crc.take_sealed]
  rfl
theorem read_good (f : Fr) (w : World) (hf : f.good = true) (ht : Tab w) :
    Calls Tryd.prog 12 #[.string (str (Crc.sealed f.raw))] w fun e w' => e = .returned (.tuple #[f.v, .int .i64 0]) ∧ Below w.heap.size w w' := by
  have hz := sealed_size f
  have hr := raw_le f
  have hs := fr_small hf
  have h := read_sealed (str (Crc.sealed f.raw)) w (by omega) ht (by omega) (by rw [str_list]; exact Crc.sealed_zero _)
  rw [ahead_sealed] at h
  have hv : readV ⟨f.raw.toArray⟩ = .tuple #[f.v, .int .i64 0] := by
    unfold readV
    rw [parse_raw hf, if_pos (by simp [Fr.whole, hf])]
  rw [hv] at h
  exact h
/-- What Read answers of any text. -/
theorem read_any (s : ByteArray) (w : World) (hs : s.size ≤ 1048576) (ht : Tab w) :
    Calls Tryd.prog 12 #[.string s] w fun e w' => (∃ v, e = .returned v ∧ (v = .tuple #[Fr.zero.v, .int .i64 4] ∨ ∃ f : Fr, f.good = true ∧ str (Crc.sealed f.raw) = s ∧ v = .tuple #[f.v, .int .i64 0])) ∧ Below w.heap.size w w' := by
  by_cases h : s.size < 2 ∨ Crc.of s.data.toList ≠ 0
  · refine (read_unsealed s w hs ht h).mono ?_
    rintro e w' ⟨rfl, hb⟩
    exact ⟨⟨_, rfl, .inl rfl⟩, hb⟩
  · have h2 : 2 ≤ s.size := by omega
    have h0 : Crc.of s.data.toList = 0 := by
      by_cases hc : Crc.of s.data.toList = 0
      · exact hc
      · exact absurd (.inr hc) h
    refine (read_sealed s w hs ht h2 h0).mono ?_
    rintro e w' ⟨rfl, hb⟩
    refine ⟨⟨_, rfl, ?_⟩, hb⟩
    unfold readV
    split
    · rename_i hw
      simp only [Fr.whole, Bool.and_eq_true, decide_eq_true_eq] at hw
      refine .inr ⟨_, hw.1, ?_, rfl⟩
      have hl : (Fr.parse (ahead s)).raw = s.data.toList.take (s.size - 2) := by
        have := congrArg (fun t : ByteArray => t.data.toList) hw.2
        simpa [ahead, str_list] using this
      rw [hl]
      exact (sealed_head s h2).2 h0
    · exact .inl rfl

theorem plain_good : Fr.good ⟨0, 0, false, 0, 0, 2048, ⟨#[]⟩⟩ = true := by decide
set_option maxHeartbeats 1000000 in
theorem alive_any (w : World) (ht : Tab w) :
    Calls Tryd.prog 8 #[] w fun e w' => e = .returned (.bool true) ∧ Below w.heap.size w w' := by
  obtain ⟨s, hs⟩ : ∃ s, Hid (str (Crc.sealed (Fr.raw ⟨0, 0, false, 0, 0, 2048, ⟨#[]⟩⟩)) = s) := ⟨_, Lib.hid rfl⟩
  have hz : s.size = 16 := by rw [← hs.out, sealed_size, raw_length]; rfl
  go_enter Tryd.func8, Tryd.ntmps8
  go_wp2_with fail
  refine (bytes_good ⟨0, 0, false, 0, 0, 2048, ⟨#[]⟩⟩ _ plain_good ht).mono ?_
  rw [hs.out]
  rintro e w1 ⟨rfl, b1⟩
  have ht1 := ht.below b1 ht.lt
  have hread := read_good ⟨0, 0, false, 0, 0, 2048, ⟨#[]⟩⟩ w1 plain_good ht1
  rw [hs.out] at hread
  replace hread := Lib.hid hread
  go_wp2_with fail
  refine hread.out.mono ?_
  simp only [Fr.v, Fr.cells]
  rintro e w2 ⟨rfl, b2⟩
  have hb2 := b1.trans (b2.mono b1.size)
  clear hread
  go_wp2
  go_ret
  exact ⟨rfl, hb2.alloc hb2.size _⟩
end Go.Proofs.YthbnadohldiifaaDoor
