/- Stage 19's arguments: places that came in. No condition. -/
import Derived.Test.YtnhnllkcnpbgoaaRlMem
import Derived.Test.YtnhnllkcnpbgoaaFopen
import Derived.Test.YtnhnllkcnpbgoaaWeigh
namespace Go.Proofs.Ytnhnllkcnpbgoaa
open Go.Joins Go.ChangeShapes Go.WideShapes Go.ChangeAt Go.RowKit Go.Deep
set_option maxRecDepth 100000

theorem open_places {H : Type} {enc : TypeId × Value → H} {w : World} {fuel : Nat} {cs : List Value} {x : DataW H × List MemPlace} (h : DataW.trod enc Try.prog w 0 (fun _ => true) true fuel 25 cs = some x) :
    ∃ a cap, ∃ l : List Pl, cs = [.slice a l.length cap] ∧ PlsAt w w.heap.size a l ∧ l.length ≤ maxLen := by
  obtain ⟨a, len, cap, rfl, hl, hn, hm, hi⟩ := open_rows (k := 5) Try.underlying25 (by kernel_rfl) (by decide) h
  obtain ⟨l, hll, hp⟩ := list_of (p := fun i (x : Pl) => ∃ b off, a = some ⟨b, off, none⟩ ∧ b < w.heap.size ∧ PlCells w b (off + i * 5) x) (fun i hil => by
    obtain ⟨b, off, n, y, cs', rfl, hb, hlen, hc, ht⟩ := hi i hil
    match cs', hlen with
    | [c0, c1, c2, c3, c4], _ =>
      obtain ⟨xs, n', _, _, _, hlen', hg⟩ := DataW.trod_struct Try.underlying49 ht
      match xs, hlen' with
      | [y0, y1, y2, y3, y4], _ =>
        have k1 : Try.prog.cellsOf 3 = 1 := by kernel_rfl
        have k2 : Try.prog.cellsOf 4 = 1 := by kernel_rfl
        obtain ⟨a0, e0, _, _⟩ := DataW.trod_int Try.underlying3 (by simpa [k1] using hg 0 _ rfl)
        obtain ⟨a1, e1, _, _⟩ := DataW.trod_int Try.underlying3 (by simpa [k1] using hg 1 _ rfl)
        obtain ⟨a2, e2, _, _⟩ := DataW.trod_int Try.underlying3 (by simpa [k1] using hg 2 _ rfl)
        obtain ⟨a3, e3, _, _⟩ := DataW.trod_int Try.underlying3 (by simpa [k1] using hg 3 _ rfl)
        obtain ⟨a4, e4, _⟩ := DataW.trod_bool Try.underlying4 (by simpa [k1, k2] using hg 4 _ rfl)
        have d0 := hc 0 (by decide)
        have d1 := hc 1 (by decide)
        have d2 := hc 2 (by decide)
        have d3 := hc 3 (by decide)
        have d4 := hc 4 (by decide)
        simp only [List.cons.injEq, and_true] at e0 e1 e2 e3 e4
        subst e0 e1 e2 e3 e4
        exact ⟨⟨a0, a1, a2, a3, a4⟩, b, off, rfl, hb, d0, d1, d2, d3, d4⟩)
  exact ⟨a, cap, l, by rw [hll], fun i hil => hp i (by omega), by omega⟩
end Go.Proofs.Ytnhnllkcnpbgoaa
