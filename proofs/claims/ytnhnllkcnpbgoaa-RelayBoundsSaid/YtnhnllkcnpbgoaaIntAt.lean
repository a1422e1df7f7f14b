/- Rows of numbers as they lie in memory, and as arguments. No condition. -/
import Derived.Test.YtnhnllkcnpbgoaaOpen
import Derived.Test.YtnhnllkcnpbgoaaBel
import Derived.Test.YtnhnllkcnpbgoaaOwn
import Derived.Lib.SmallJoins
namespace Go.Proofs.Ytnhnllkcnpbgoaa
open Go.Joins Go.ChangeShapes Go.WideShapes Go.ChangeAt Go.RowKit Go.Deep
set_option maxRecDepth 100000

def IntAt (w : World) (B : Nat) (A : Option Addr) (l : List Int) : Prop := ∀ k, k < l.length → ∃ b off, A = some ⟨b, off, none⟩ ∧ b < B ∧ w.cell? ⟨b, off + k, none⟩ = some (.int .i64 (l.getD k 0))
theorem IntAt.below {w w' : World} {B : Nat} {A : Option Addr} {l : List Int} (h : IntAt w B A l) (hb : Below B w w') : IntAt w' B A l := fun k hk => by
  obtain ⟨b, off, e, hl, c⟩ := h k hk
  exact ⟨b, off, e, hl, (hb.cell (p := ⟨b, off + k, none⟩) hl).trans c⟩
theorem IntAt.more {w : World} {B B' : Nat} {A : Option Addr} {l : List Int} (h : IntAt w B A l) (hB : B ≤ B') : IntAt w B' A l := fun k hk => by
  obtain ⟨b, off, e, hl, c⟩ := h k hk
  exact ⟨b, off, e, Nat.lt_of_lt_of_le hl hB, c⟩
theorem IntAt.nil (w : World) (B : Nat) (A : Option Addr) : IntAt w B A [] := fun _ hk => absurd hk (Nat.not_lt_zero _)
/-- As arguments. -/
theorem open_nums1 {H : Type} {enc : TypeId × Value → H} {w : World} {fuel : Nat} {cs : List Value} {x : DataW H × List MemPlace} {t e : TypeId} (ht : Try.prog.underlying t = some (.slice e)) (he : Try.prog.underlying e = some (.int .i64)) (ce : Try.prog.cellsOf e = 1)
    (h : DataW.trod enc Try.prog w 0 (fun _ => true) true fuel t cs = some x) : ∃ a cap, ∃ l : List Int, cs = [.slice a l.length cap] ∧ IntAt w w.heap.size a l ∧ l.length ≤ cap ∧ (a = none → cap = 0) ∧ cap ≤ maxLen := by
  obtain ⟨a, len, cap, rfl, hl, hn, hm, hi⟩ := open_rows (k := 1) ht ce (by decide) h
  obtain ⟨l, hll, hp⟩ := list_of (p := fun i (x : Int) => ∃ b off, a = some ⟨b, off, none⟩ ∧ b < w.heap.size ∧ w.cell? ⟨b, off + i, none⟩ = some (.int .i64 x)) (fun i hil => by
    obtain ⟨b, off, n, y, cs', rfl, hb, hlen, hc, ht⟩ := hi i hil
    obtain ⟨a0, e0, _, _⟩ := DataW.trod_int he ht
    have c0 := hc 0 (by decide)
    rw [e0] at c0
    rw [Nat.mul_one] at c0
    exact ⟨a0, b, off, rfl, hb, c0⟩)
  exact ⟨a, cap, l, by rw [hll], fun i hil => hp i (by omega), by omega, hn, hm⟩
end Go.Proofs.Ytnhnllkcnpbgoaa
