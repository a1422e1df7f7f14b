/- check.up: four steps at once, where the table reads as its text lays it. Its condition: the table's cells. -/
import Derived.Test.YthbnadohldiifaaDoorCrc
namespace Go.Proofs.YthbnadohldiifaaDoor
open Go.RowKit

/-- The table reads as its text lays it. -/
def Tab (w : World) : Prop := ∀ i, i < 16 → w.cell? ⟨0, i, none⟩ = some (.int .i64 ((Crc.tab.getD i 0 : Nat) : Int))
theorem Tab.lt {w : World} (h : Tab w) : 0 < w.heap.size := by
  have h0 := h 0 (by decide)
  by_cases hl : 0 < w.heap.size
  · exact hl
  · unfold World.cell? at h0
    rw [Array.getElem?_eq_none (by simpa using hl)] at h0
    cases h0
theorem Tab.of_block {w w' : World} (h : Tab w) (e : w'.heap[0]? = w.heap[0]?) : Tab w' := by
  intro i hi
  rw [← h i hi]
  simp only [World.cell?, e]
theorem Tab.drew {w : World} (h : Tab w) : Tab w.drew := h
theorem Tab.drewN {w : World} (h : Tab w) (n : Nat) : Tab (w.drewN n) := h
theorem Tab.alloc {w : World} (h : Tab w) (o : Obj) : Tab (w.alloc o) := h.of_block (Below.heap_alloc w o _ h.lt)
theorem Tab.below {w w' : World} {B : Nat} (h : Tab w) (hb : Below B w w') (hB : 0 < B) : Tab w' := h.of_block (hb.block _ hB)
theorem Tab.set_ {w : World} (h : Tab w) {a : Addr} (ha : 0 ≠ a.block) (u : Value) : Tab (w.setCell a u) := h.of_block (Below.heap_setCell w a u _ ha)

theorem xor64 {a b : Nat} (ha : a < 65536) (hb : b < 65536) : bits .xor .i64 (a : Int) (b : Int) = ((a ^^^ b : Nat) : Int) := by
  have hx : a ^^^ b < 65536 := Crc.xor_lt ha hb
  have h1 : (BitVec.ofInt 64 (a : Int)).toNat = a := by
    rw [BitVec.ofInt_natCast, BitVec.toNat_ofNat]; exact Nat.mod_eq_of_lt (by omega)
  have h2 : (BitVec.ofInt 64 (b : Int)).toNat = b := by
    rw [BitVec.ofInt_natCast, BitVec.toNat_ofNat]; exact Nat.mod_eq_of_lt (by omega)
  show IntKind.i64.wrap ((BitVec.ofInt 64 (a : Int) ^^^ BitVec.ofInt 64 (b : Int)).toNat : Int) = _
  rw [BitVec.toNat_xor, h1, h2]
  exact IntWalk.i64_in _ (by omega)

theorem tab_lt {i : Nat} (h : i < 16) : Crc.tab.getD i 0 < 65536 := by
  have : ∀ j, j < 16 → Crc.tab.getD j 0 < 65536 := by decide
  exact this i h

theorem up_any (c : Nat) (w : World) (hc : c < 65536) (ht : Tab w) :
    Calls Tryd.prog 39 #[.int .i64 (c : Int)] w fun e w' => e = .returned (.int .i64 ((Crc.it 4 c : Nat) : Int)) ∧ w' = w := by
  obtain ⟨h, hh⟩ : ∃ h, c / 4096 = h := ⟨_, rfl⟩
  have hlt : h < 16 := by omega
  have hcell := ht h hlt
  have e1 : bits .and .i64 ((c : Int) * 16) 65535 = ((c * 16 % 65536 : Nat) : Int) := by
    rw [show (65535 : Int) = 2 ^ 16 - 1 from rfl, bits_mask .i64 63 (by decide) (fun n a b => IntWalk.i64_in _ (by omega)) 16 (by decide) _ (by omega) (by omega)]
    omega
  have e2 : (c : Int) / 4096 = (h : Int) := by omega
  have e3 := xor64 (a := c * 16 % 65536) (b := Crc.tab.getD h 0) (by omega) (tab_lt hlt)
  rw [← hh, Crc.up_is hc] at e3
  rw [hh] at e3
  rw [show ((c * 16 % 65536 : Nat) : Int) = (c : Int) * 16 % 65536 by omega] at e1 e3
  generalize Crc.tab.getD h 0 = z at hcell e3
  go_enter Tryd.func39, Tryd.ntmps39
  go_wp2_with fail
  go_ret
  exact ⟨rfl, rfl⟩
end Go.Proofs.YthbnadohldiifaaDoor
