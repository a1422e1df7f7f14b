/- frame.Bytes: the sealed bytes of a frame that can be, or the error. Its condition: the table's cells. -/
import Derived.Test.YthbnadohldiifaaDoorFraw
import Derived.Test.YthbnadohldiifaaDoorSeal
namespace Go.Proofs.YthbnadohldiifaaDoor
open Go.RowKit

set_option maxHeartbeats 1000000 in
theorem bytes_good (f : Fr) (w : World) (hf : f.good = true) (ht : Tab w) :
    Calls Tryd.prog 10 #[f.v] w fun e w' => e = .returned (.tuple #[.string (str (Crc.sealed f.raw)), .int .i64 0]) ∧ Below w.heap.size w w' := by
  have HF := Lib.hid hf
  have hz : (⟨f.raw.toArray⟩ : ByteArray).size ≤ 1048576 := by
    have h1 := raw_le f
    have h2 : (⟨f.raw.toArray⟩ : ByteArray).size = f.raw.length := by show f.raw.toArray.size = _; simp
    have h3 := hf
    simp only [Fr.good, Bool.and_eq_true, decide_eq_true_eq] at h3
    omega
  obtain ⟨s, hs⟩ : ∃ s : ByteArray, Hid (⟨f.raw.toArray⟩ = s) := ⟨_, Lib.hid rfl⟩
  have hl := Lib.hid (show s.data.toList = f.raw by rw [← hs.out])
  rw [hs.out] at hz
  have hb0 := bel_alloc w (.cells f.cells 23)
  have hblk := Blk.new w 23 f.cells
  have ht0 := ht.alloc (.cells f.cells 23)
  clear hf
  obtain ⟨dst, src, tagged, vid, prio, typ, data⟩ := f
  simp only [Fr.v, Fr.cells] at hb0 hblk ht0 ⊢
  go_enter Tryd.func10, Tryd.ntmps10
  go_wp2_with fail
  refine (fgood_any ⟨dst, src, tagged, vid, prio, typ, data⟩ _).mono ?_
  rw [HF.out]
  rintro e w1 ⟨rfl, b1⟩
  have k1 := hblk.below b1 (by simp)
  have ht1 := ht0.below b1 ht0.lt
  have hb1 := hb0.trans (b1.mono hb0.size)
  have c0 : w1.cell? ⟨w.heap.size, 0, none⟩ = some (.int .i64 dst) := k1.cell 0
  have c1 : w1.cell? ⟨w.heap.size, 1, none⟩ = some (.int .i64 src) := k1.cell 1
  have c2 : w1.cell? ⟨w.heap.size, 2, none⟩ = some (.bool tagged) := k1.cell 2
  have c3 : w1.cell? ⟨w.heap.size, 3, none⟩ = some (.int .i64 vid) := k1.cell 3
  have c4 : w1.cell? ⟨w.heap.size, 4, none⟩ = some (.int .i64 prio) := k1.cell 4
  have c5 : w1.cell? ⟨w.heap.size, 5, none⟩ = some (.int .i64 typ) := k1.cell 5
  have c6 : w1.cell? ⟨w.heap.size, 6, none⟩ = some (.string data) := k1.cell 6
  go_wp2_with fail
  refine (unsealed_any ⟨dst, src, tagged, vid, prio, typ, data⟩ _ HF.out).mono ?_
  rw [hs.out]
  rintro e w2 ⟨rfl, b2⟩
  have ht2 := ht1.below b2 ht1.lt
  have hb2 := hb1.trans (b2.mono hb1.size)
  go_wp2_with fail
  refine (seal_any s _ hz ht2).mono ?_
  rw [hl.out]
  rintro e w3 ⟨rfl, b3⟩
  go_wp2
  go_ret2
  exact ⟨rfl, hb2.trans (b3.mono hb2.size)⟩

set_option maxHeartbeats 1000000 in
theorem bytes_bad (f : Fr) (w : World) (hf : f.good = false) :
    Calls Tryd.prog 10 #[f.v] w fun e w' => e = .returned (.tuple #[.string ⟨#[]⟩, .int .i64 1]) ∧ Below w.heap.size w w' := by
  have HF := Lib.hid hf
  have hb0 := bel_alloc w (.cells f.cells 23)
  clear hf
  obtain ⟨dst, src, tagged, vid, prio, typ, data⟩ := f
  simp only [Fr.v, Fr.cells] at hb0 ⊢
  go_enter Tryd.func10, Tryd.ntmps10
  go_wp2_with fail
  refine (fgood_any ⟨dst, src, tagged, vid, prio, typ, data⟩ _).mono ?_
  rw [HF.out]
  rintro e w1 ⟨rfl, b1⟩
  go_wp2
  go_ret2
  exact ⟨rfl, hb0.trans (b1.mono hb0.size)⟩
end Go.Proofs.YthbnadohldiifaaDoor
