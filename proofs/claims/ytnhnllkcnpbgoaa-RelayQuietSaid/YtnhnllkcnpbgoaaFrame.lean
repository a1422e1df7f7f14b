/- What a walk is told of a slice of integers that came in; the two facts that every law's frame wants. No condition. -/
import Derived.Test.YtnhnllkcnpbgoaaMem
import Derived.ProofKit
import Derived.OpenShut
import Derived.ShutString
import Derived.ChangeOld
namespace Go.Proofs.Ytnhnllkcnpbgoaa
open Go.ChangeShapes Go.WideShapes Go.ChangeAt Go.RowKit

theorem own : ownKnob Try.prog.godebug = none := by kernel_rfl
theorem laidOut : laidOutB Try.prog = true := by kernel_rfl

/-- A slice of integers that came in: nil, or a row of cells that lies among the blocks that are there. -/
def IsRow (k : IntKind) (w : World) (a : Option Addr) (len cap : Nat) (zs : List Int) : Prop :=
  (a = none ∧ len = 0 ∧ cap = 0 ∧ zs = []) ∨
  ∃ x, a = some x ∧ len ≤ cap ∧ cap ≤ maxLen ∧ zs.length = cap ∧ (0 < cap → x.block < w.heap.size) ∧ (∀ i, i < zs.length → w.cell? (x.add i) = some (.int k (zs.getD i 0))) ∧ ∀ n ∈ zs, (Lit.int k n).wf = true

theorem cell_lt {k : IntKind} {w : World} {x : Addr} {zs : List Int} {cap : Nat} (h : ∀ i, i < zs.length → w.cell? (x.add i) = some (.int k (zs.getD i 0))) (hz : zs.length = cap) : 0 < cap → x.block < w.heap.size := by
  intro hc
  have h0 := h 0 (by omega)
  have hx : x.add 0 = x := rfl
  rw [hx] at h0
  by_cases hl : x.block < w.heap.size
  · exact hl
  · unfold World.cell? at h0
    rw [Array.getElem?_eq_none (by omega)] at h0
    cases h0

/-- The elements as a walk asks for them: one by one, under their condition, in whatever world still has the block. -/
theorem IsRow.len_le {k : IntKind} {w : World} {a : Option Addr} {len cap : Nat} {zs : List Int} (h : IsRow k w a len cap zs) : len ≤ zs.length := by
  rcases h with ⟨rfl, rfl, rfl, rfl⟩ | ⟨x, rfl, hl, _, hz, _⟩
  · exact Nat.le_refl _
  · omega
theorem IsRow.at_ {k : IntKind} {w : World} {a : Option Addr} {len cap : Nat} {zs : List Int} (h : IsRow k w a len cap zs) {i : Nat} (hi : i < len) :
    ∃ b off, a = some ⟨b, off, none⟩ ∧ b < w.heap.size ∧ w.cell? ⟨b, off + i, none⟩ = some (.int k (zs.getD i 0)) := by
  rcases h with ⟨rfl, rfl, rfl, rfl⟩ | ⟨x, rfl, hl, _, hz, hlt, hc, _⟩
  · omega
  · obtain ⟨b, off, spot⟩ := x
    have h0 := hc 0 (by omega)
    have hspot : spot = none := by simpa [Addr.add] using World.cell?_spot h0
    subst hspot
    have hi' := hc i (by omega)
    rw [Addr.add_lit] at hi'
    exact ⟨b, off, rfl, hlt (by omega), hi'⟩
end Go.Proofs.Ytnhnllkcnpbgoaa
