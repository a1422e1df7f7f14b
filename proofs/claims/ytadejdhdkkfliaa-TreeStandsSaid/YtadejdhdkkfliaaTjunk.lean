/- Messages heard ahead that came in as an argument, as plain data. No condition. -/
import Derived.Test.YtadejdhdkkfliaaTsteps
namespace Go.Proofs.Ytadejdhdkkfliaa
open Go.ChangeShapes Go.WideShapes Go.ChangeAt Go.RowKit Go.Deep
set_option maxRecDepth 100000

structure Jk where
  bridge : Int
  port : Int
  b : Bp
def jk0 : Jk := ⟨0, 0, ⟨0, 0, 0, 0, 0, 0, false⟩⟩
instance : Inhabited Jk := ⟨jk0⟩
structure Jk.ok (s : Jk) : Prop where
  bridge : In64 s.bridge
  port : In64 s.port
  root : In64 s.b.root
  cost : In64 s.b.cost
  from_ : In64 s.b.bridge
  bport : In64 s.b.port
  age : In64 s.b.age
  role : In64 s.b.role
/-- Its nine cells. -/
structure JkCells (w : World) (b i : Nat) (s : Jk) : Prop where
  c0 : w.cell? ⟨b, i, none⟩ = some (.int .i64 s.bridge)
  c1 : w.cell? ⟨b, i + 1, none⟩ = some (.int .i64 s.port)
  c2 : w.cell? ⟨b, i + 2, none⟩ = some (.int .i64 s.b.root)
  c3 : w.cell? ⟨b, i + 3, none⟩ = some (.int .i64 s.b.cost)
  c4 : w.cell? ⟨b, i + 4, none⟩ = some (.int .i64 s.b.bridge)
  c5 : w.cell? ⟨b, i + 5, none⟩ = some (.int .i64 s.b.port)
  c6 : w.cell? ⟨b, i + 6, none⟩ = some (.int .i64 s.b.age)
  c7 : w.cell? ⟨b, i + 7, none⟩ = some (.int .i64 s.b.role)
  c8 : w.cell? ⟨b, i + 8, none⟩ = some (.bool s.b.change)
theorem JkCells.below {w w' : World} {B b i : Nat} {s : Jk} (h : JkCells w b i s) (hb : Below B w w') (hl : b < B) : JkCells w' b i s := by
  have e := fun k => hb.cell (p := ⟨b, k, none⟩) hl
  exact ⟨(e i).trans h.c0, (e (i + 1)).trans h.c1, (e (i + 2)).trans h.c2, (e (i + 3)).trans h.c3, (e (i + 4)).trans h.c4, (e (i + 5)).trans h.c5, (e (i + 6)).trans h.c6, (e (i + 7)).trans h.c7, (e (i + 8)).trans h.c8⟩
def JkAt (w : World) (B : Nat) (A : Option Addr) (l : List Jk) : Prop := ∀ k, k < l.length → ∃ b off, A = some ⟨b, off, none⟩ ∧ b < B ∧ JkCells w b (off + k * 9) (l.getD k jk0)
theorem JkAt.below {w w' : World} {B : Nat} {A : Option Addr} {l : List Jk} (h : JkAt w B A l) (hb : Below B w w') : JkAt w' B A l := fun k hk => by
  obtain ⟨b, off, e, hl, hc⟩ := h k hk
  exact ⟨b, off, e, hl, hc.below hb hl⟩
theorem JkAt.more {w : World} {B B' : Nat} {A : Option Addr} {l : List Jk} (h : JkAt w B A l) (hB : B ≤ B') : JkAt w B' A l := fun k hk => by
  obtain ⟨b, off, e, hl, hc⟩ := h k hk
  exact ⟨b, off, e, Nat.lt_of_lt_of_le hl hB, hc⟩
theorem trod_117 {H : Type} {enc : TypeId × Value → H} {P : Program} {w : World} {base : Nat} {spare : Nat → Bool} {held : Bool} {t : TypeId} {f0 f1 f2 : Field} {n : Nat} {c0 c1 c2 c3 c4 c5 c6 c7 c8 : Value} {y : DataW H × List MemPlace} (hs : P.underlying t = some (.struct #[f0, f1, f2]))
    (o : f0.offset = 0 ∧ f1.offset = 1 ∧ f2.offset = 2) (k : P.cellsOf f0.type = 1 ∧ P.cellsOf f1.type = 1 ∧ P.cellsOf f2.type = 7)
    (h : DataW.trod enc P w base spare held n t [c0, c1, c2, c3, c4, c5, c6, c7, c8] = some y) :
    ∃ (y0 y1 y2 : DataW H × List MemPlace) (n : Nat), DataW.trod enc P w base spare held n f0.type [c0] = some y0 ∧ DataW.trod enc P w base spare held n f1.type [c1] = some y1 ∧ DataW.trod enc P w base spare held n f2.type [c2, c3, c4, c5, c6, c7, c8] = some y2 := by
  obtain ⟨o0, o1, o2⟩ := o
  obtain ⟨k0, k1, k2⟩ := k
  obtain ⟨xs, n, _, hx, _, hlen, hg⟩ := DataW.trod_struct hs h
  match xs, hlen with
  | [y0, y1, y2], _ =>
    exact ⟨y0, y1, y2, n, by simpa [o0, k0] using hg 0 f0 rfl, by simpa [o1, k1] using hg 1 f1 rfl, by simpa [o2, k2] using hg 2 f2 rfl⟩
theorem open_junk {H : Type} {enc : TypeId × Value → H} {w : World} {fuel : Nat} {cs : List Value} {x : DataW H × List MemPlace} (h : DataW.trod enc Try.prog w 0 (fun _ => true) true fuel 57 cs = some x) :
    ∃ a cap, ∃ l : List Jk, cs = [.slice a l.length cap] ∧ JkAt w w.heap.size a l ∧ (∀ x ∈ l, x.ok) ∧ l.length ≤ maxLen := by
  obtain ⟨a, len, cap, rfl, hl, _, hm, hi⟩ := open_rows (k := 9) Try.underlying57 (by kernel_rfl) (by decide) h
  obtain ⟨l, hll, hp⟩ := list_of (p := fun i (x : Jk) => (∃ b off, a = some ⟨b, off, none⟩ ∧ b < w.heap.size ∧ JkCells w b (off + i * 9) x) ∧ x.ok) (fun i hil => by
    obtain ⟨b, off, n, y, cs', rfl, hb, hlen, hc, ht⟩ := hi i hil
    match cs', hlen with
    | [c0, c1, c2, c3, c4, c5, c6, c7, c8], _ =>
      obtain ⟨y0, y1, y2, m, t0, t1, t2⟩ := trod_117 Try.underlying101 ⟨rfl, rfl, rfl⟩ ⟨int_cells, int_cells, bp_cells⟩ ht
      obtain ⟨a0, e0, _, w0⟩ := DataW.trod_int Try.underlying3 t0
      obtain ⟨a1, e1, _, w1⟩ := DataW.trod_int Try.underlying3 t1
      obtain ⟨bm, rfl, rfl, rfl, rfl, rfl, rfl, rfl, b0, b1, b2, b3, b4, b5⟩ := trod_bp t2
      simp only [List.cons.injEq, and_true] at e0 e1
      subst e0 e1
      exact ⟨⟨a0, a1, bm⟩, ⟨b, off, rfl, hb, hc 0 (by decide), hc 1 (by decide), hc 2 (by decide), hc 3 (by decide), hc 4 (by decide), hc 5 (by decide), hc 6 (by decide), hc 7 (by decide), hc 8 (by decide)⟩, wf_in w0, wf_in w1, b0, b1, b2, b3, b4, b5⟩)
  refine ⟨a, cap, l, by rw [hll], fun i hil => ?_, fun x hx => ?_, by omega⟩
  · exact (hp i (by omega)).1
  · obtain ⟨i, hi', rfl⟩ := List.getElem_of_mem hx
    have := (hp i (by omega)).2
    rwa [List.getD_eq_getElem?_getD, List.getElem?_eq_getElem hi'] at this
end Go.Proofs.Ytadejdhdkkfliaa
