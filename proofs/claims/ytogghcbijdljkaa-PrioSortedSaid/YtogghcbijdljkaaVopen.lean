/- What was heard, and vectors, that came in as arguments, as plain data. No condition. -/
import Derived.Test.YtogghcbijdljkaaOpen
import Derived.Test.YtogghcbijdljkaaVlist
namespace Go.Proofs.Ytogghcbijdljkaa
open Go.ChangeShapes Go.WideShapes Go.ChangeAt Go.RowKit Go.Deep
set_option maxRecDepth 100000

section
variable {H : Type} {enc : TypeId × Value → H} {P : Program} {w : World} {base : Nat} {spare : Nat → Bool} {held : Bool}
theorem trod_four {t : TypeId} {f0 f1 f2 f3 : Field} {n : Nat} {c0 c1 c2 c3 : Value} {y : DataW H × List MemPlace} (hs : P.underlying t = some (.struct #[f0, f1, f2, f3]))
    (o : f0.offset = 0 ∧ f1.offset = 1 ∧ f2.offset = 2 ∧ f3.offset = 3) (k : P.cellsOf f0.type = 1 ∧ P.cellsOf f1.type = 1 ∧ P.cellsOf f2.type = 1 ∧ P.cellsOf f3.type = 1)
    (h : DataW.trod enc P w base spare held n t [c0, c1, c2, c3] = some y) :
    ∃ (y0 y1 y2 y3 : DataW H × List MemPlace) (n : Nat), DataW.trod enc P w base spare held n f0.type [c0] = some y0 ∧ DataW.trod enc P w base spare held n f1.type [c1] = some y1 ∧ DataW.trod enc P w base spare held n f2.type [c2] = some y2 ∧ DataW.trod enc P w base spare held n f3.type [c3] = some y3 := by
  obtain ⟨o0, o1, o2, o3⟩ := o
  obtain ⟨k0, k1, k2, k3⟩ := k
  obtain ⟨xs, n, _, hx, _, hlen, hg⟩ := DataW.trod_struct hs h
  match xs, hlen with
  | [y0, y1, y2, y3], _ =>
    exact ⟨y0, y1, y2, y3, n, by simpa [o0, k0] using hg 0 f0 rfl, by simpa [o1, k1] using hg 1 f1 rfl, by simpa [o2, k2] using hg 2 f2 rfl, by simpa [o3, k3] using hg 3 f3 rfl⟩
theorem trod_4111 {t : TypeId} {f0 f1 f2 f3 : Field} {n : Nat} {c0 c1 c2 c3 c4 c5 c6 : Value} {y : DataW H × List MemPlace} (hs : P.underlying t = some (.struct #[f0, f1, f2, f3]))
    (o : f0.offset = 0 ∧ f1.offset = 4 ∧ f2.offset = 5 ∧ f3.offset = 6) (k : P.cellsOf f0.type = 4 ∧ P.cellsOf f1.type = 1 ∧ P.cellsOf f2.type = 1 ∧ P.cellsOf f3.type = 1)
    (h : DataW.trod enc P w base spare held n t [c0, c1, c2, c3, c4, c5, c6] = some y) :
    ∃ (y0 y1 y2 y3 : DataW H × List MemPlace) (n : Nat), DataW.trod enc P w base spare held n f0.type [c0, c1, c2, c3] = some y0 ∧ DataW.trod enc P w base spare held n f1.type [c4] = some y1 ∧ DataW.trod enc P w base spare held n f2.type [c5] = some y2 ∧ DataW.trod enc P w base spare held n f3.type [c6] = some y3 := by
  obtain ⟨o0, o1, o2, o3⟩ := o
  obtain ⟨k0, k1, k2, k3⟩ := k
  obtain ⟨xs, n, _, hx, _, hlen, hg⟩ := DataW.trod_struct hs h
  match xs, hlen with
  | [y0, y1, y2, y3], _ =>
    exact ⟨y0, y1, y2, y3, n, by simpa [o0, k0] using hg 0 f0 rfl, by simpa [o1, k1] using hg 1 f1 rfl, by simpa [o2, k2] using hg 2 f2 rfl, by simpa [o3, k3] using hg 3 f3 rfl⟩
end
theorem int_cells : Try.prog.cellsOf 3 = 1 := by kernel_rfl
theorem trod_vec {H : Type} {enc : TypeId × Value → H} {w : World} {base : Nat} {spare : Nat → Bool} {held : Bool} {n : Nat} {c0 c1 c2 c3 : Value} {y : DataW H × List MemPlace}
    (h : DataW.trod enc Try.prog w base spare held n 49 [c0, c1, c2, c3] = some y) : ∃ v : Vec, c0 = .int .i64 v.root ∧ c1 = .int .i64 v.cost ∧ c2 = .int .i64 v.bridge ∧ c3 = .int .i64 v.port ∧ v.ok := by
  obtain ⟨z0, z1, z2, z3, m, k0, k1, k2, k3⟩ := trod_four Try.underlying49 ⟨rfl, rfl, rfl, rfl⟩ ⟨int_cells, int_cells, int_cells, int_cells⟩ h
  obtain ⟨a0, e0, _, w0⟩ := DataW.trod_int Try.underlying3 k0
  obtain ⟨a1, e1, _, w1⟩ := DataW.trod_int Try.underlying3 k1
  obtain ⟨a2, e2, _, w2⟩ := DataW.trod_int Try.underlying3 k2
  obtain ⟨a3, e3, _, w3⟩ := DataW.trod_int Try.underlying3 k3
  simp only [List.cons.injEq, and_true] at e0 e1 e2 e3
  exact ⟨⟨a0, a1, a2, a3⟩, e0, e1, e2, e3, wf_in w0, wf_in w1, wf_in w2, wf_in w3⟩
theorem open_vec {H : Type} {enc : TypeId × Value → H} {w : World} {base : Nat} {spare : Nat → Bool} {held : Bool} {r : Reach} {b0 : Nat} {v : Value} {d : DataW H} {p : List MemPlace}
    (hv : Value.okWide Try.prog w r b0 49 v) (h : DataW.Trod enc Try.prog w base spare held 49 v d p) : ∃ x : Vec, v = x.v ∧ x.ok := by
  obtain ⟨cs, rfl, hsz⟩ := okWide_struct Try.underlying49 hv
  obtain ⟨l⟩ := cs
  have hC : Try.prog.cellsOf 49 = 4 := by kernel_rfl
  match l, hsz.trans hC with
  | [c0, c1, c2, c3], _ =>
    obtain ⟨fuel, hf⟩ := h
    obtain ⟨x, rfl, rfl, rfl, rfl, ho⟩ := trod_vec (by simpa [Value.cells] using hf)
    exact ⟨x, rfl, ho⟩
theorem open_hds {H : Type} {enc : TypeId × Value → H} {w : World} {fuel : Nat} {cs : List Value} {x : DataW H × List MemPlace} (h : DataW.trod enc Try.prog w 0 (fun _ => true) true fuel 57 cs = some x) :
    ∃ a cap, ∃ l : List Hd, cs = [.slice a l.length cap] ∧ HdAt w w.heap.size a l ∧ (∀ x ∈ l, x.ok) ∧ (a = none → cap = 0) := by
  obtain ⟨a, len, cap, rfl, hl, h0, _, hi⟩ := open_rows (k := 7) Try.underlying57 (by kernel_rfl) (by decide) h
  have hB : Try.prog.cellsOf 4 = 1 := by kernel_rfl
  have hV : Try.prog.cellsOf 49 = 4 := by kernel_rfl
  obtain ⟨l, hll, hp⟩ := list_of (p := fun i (x : Hd) => (∃ b off, a = some ⟨b, off, none⟩ ∧ b < w.heap.size ∧ HdCells w b (off + i * 7) x) ∧ x.ok) (fun i hil => by
    obtain ⟨b, off, n, y, cs', rfl, hb, hlen, hc, ht⟩ := hi i hil
    match cs', hlen with
    | [c0, c1, c2, c3, c4, c5, c6], _ =>
      obtain ⟨y0, y1, y2, y3, m, t0, t1, t2, t3⟩ := trod_4111 Try.underlying71 ⟨rfl, rfl, rfl, rfl⟩ ⟨hV, int_cells, int_cells, hB⟩ ht
      obtain ⟨v, rfl, rfl, rfl, rfl, ho⟩ := trod_vec t0
      obtain ⟨a4, e4, _, w4⟩ := DataW.trod_int Try.underlying3 t1
      obtain ⟨a5, e5, _, w5⟩ := DataW.trod_int Try.underlying3 t2
      obtain ⟨a6, e6, _⟩ := DataW.trod_bool Try.underlying4 t3
      simp only [List.cons.injEq, and_true] at e4 e5 e6
      subst e4 e5 e6
      exact ⟨⟨v.root, v.cost, v.bridge, v.port, a4, a5, a6⟩, ⟨b, off, rfl, hb, hc 0 (by decide), hc 1 (by decide), hc 2 (by decide), hc 3 (by decide), hc 4 (by decide), hc 5 (by decide), hc 6 (by decide)⟩, ho, wf_in w4, wf_in w5⟩)
  refine ⟨a, cap, l, by rw [hll], fun i hil => ?_, fun x hx => ?_, h0⟩
  · exact (hp i (by omega)).1
  · obtain ⟨i, hi', rfl⟩ := List.getElem_of_mem hx
    have := (hp i (by omega)).2
    rwa [List.getD_eq_getElem?_getD, List.getElem?_eq_getElem hi'] at this
end Go.Proofs.Ytogghcbijdljkaa
