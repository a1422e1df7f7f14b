/- A slice of Bools that came in. No condition. -/
import Derived.Test.YtoiapdcleagepaaOpen
namespace Go.Proofs.Ytoiapdcleagepaa
open Go.ChangeShapes Go.WideShapes Go.ChangeAt Go.RowKit Go.Deep
set_option maxRecDepth 100000

def BlAt (w : World) (B : Nat) (A : Option Addr) (l : List Bool) : Prop := ∀ k, k < l.length → ∃ b off, A = some ⟨b, off, none⟩ ∧ b < B ∧ w.cell? ⟨b, off + k, none⟩ = some (.bool (l.getD k false))
theorem open_bools {H : Type} {enc : TypeId × Value → H} {w : World} {fuel : Nat} {cs : List Value} {x : DataW H × List MemPlace} (h : DataW.trod enc Try.prog w 0 (fun _ => true) true fuel 44 cs = some x) :
    ∃ a cap, ∃ l : List Bool, cs = [.slice a l.length cap] ∧ BlAt w w.heap.size a l ∧ l.length ≤ maxLen := by
  obtain ⟨a, len, cap, rfl, hl, _, hm, hi⟩ := open_rows (k := 1) Try.underlying44 (by kernel_rfl) (by decide) h
  obtain ⟨l, hll, hp⟩ := list_of (p := fun i (x : Bool) => ∃ b off, a = some ⟨b, off, none⟩ ∧ b < w.heap.size ∧ w.cell? ⟨b, off + i, none⟩ = some (.bool x)) (fun i hil => by
    obtain ⟨b, off, n, y, cs', rfl, hb, hlen, hc, ht⟩ := hi i hil
    match cs', hlen with
    | [c0], _ =>
      obtain ⟨a0, e0, _⟩ := DataW.trod_bool Try.underlying4 ht
      simp only [List.cons.injEq, and_true] at e0
      subst e0
      have h0 := hc 0 (by decide)
      rw [Nat.mul_one] at h0
      exact ⟨a0, b, off, rfl, hb, h0⟩)
  exact ⟨a, cap, l, by rw [hll], fun i hil => hp i (by omega), by omega⟩
end Go.Proofs.Ytoiapdcleagepaa
