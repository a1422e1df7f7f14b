/- Steps of an applicant that came in as an argument, as plain data. No condition. -/
import Derived.Test.YtnifdbhihbjeaaaOpen
import Derived.Test.YtnifdbhihbjeaaaBel
namespace Go.Proofs.Ytnifdbhihbjeaaa
open Go.ChangeShapes Go.WideShapes Go.ChangeAt Go.RowKit Go.Deep
set_option maxRecDepth 100000

structure St where
  kind : Int
  born : Int
  new : Bool
def st0 : St := ⟨0, 0, false⟩
instance : Inhabited St := ⟨st0⟩
def St.arr (s : St) : Array Value := #[.int .i64 s.kind, .int .i64 s.born, .bool s.new]
/-- The three cells of a step. -/
structure StCells (w : World) (b i : Nat) (s : St) : Prop where
  c0 : w.cell? ⟨b, i, none⟩ = some (.int .i64 s.kind)
  c1 : w.cell? ⟨b, i + 1, none⟩ = some (.int .i64 s.born)
  c2 : w.cell? ⟨b, i + 2, none⟩ = some (.bool s.new)
theorem StCells.below {w w' : World} {B b i : Nat} {s : St} (h : StCells w b i s) (hb : Below B w w') (hl : b < B) : StCells w' b i s := by
  have e := fun k => hb.cell (p := ⟨b, k, none⟩) hl
  exact ⟨(e i).trans h.c0, (e (i + 1)).trans h.c1, (e (i + 2)).trans h.c2⟩
def StAt (w : World) (B : Nat) (A : Option Addr) (l : List St) : Prop := ∀ k, k < l.length → ∃ b off, A = some ⟨b, off, none⟩ ∧ b < B ∧ StCells w b (off + k * 3) (l.getD k st0)
theorem StAt.below {w w' : World} {B : Nat} {A : Option Addr} {l : List St} (h : StAt w B A l) (hb : Below B w w') : StAt w' B A l := fun k hk => by
  obtain ⟨b, off, e, hl, c⟩ := h k hk
  exact ⟨b, off, e, hl, c.below hb hl⟩
theorem StAt.more {w : World} {B B' : Nat} {A : Option Addr} {l : List St} (h : StAt w B A l) (hB : B ≤ B') : StAt w B' A l := fun k hk => by
  obtain ⟨b, off, e, hl, c⟩ := h k hk
  exact ⟨b, off, e, by omega, c⟩
theorem int_cells : Try.prog.cellsOf 3 = 1 := by kernel_rfl
theorem bool_cells : Try.prog.cellsOf 4 = 1 := by kernel_rfl
theorem trod_three {H : Type} {enc : TypeId × Value → H} {P : Program} {w : World} {base : Nat} {spare : Nat → Bool} {held : Bool} {t : TypeId} {f0 f1 f2 : Field} {n : Nat} {c0 c1 c2 : Value} {y : DataW H × List MemPlace} (hs : P.underlying t = some (.struct #[f0, f1, f2]))
    (o : f0.offset = 0 ∧ f1.offset = 1 ∧ f2.offset = 2) (k : P.cellsOf f0.type = 1 ∧ P.cellsOf f1.type = 1 ∧ P.cellsOf f2.type = 1)
    (h : DataW.trod enc P w base spare held n t [c0, c1, c2] = some y) :
    ∃ (y0 y1 y2 : DataW H × List MemPlace) (n : Nat), DataW.trod enc P w base spare held n f0.type [c0] = some y0 ∧ DataW.trod enc P w base spare held n f1.type [c1] = some y1 ∧ DataW.trod enc P w base spare held n f2.type [c2] = some y2 := by
  obtain ⟨o0, o1, o2⟩ := o
  obtain ⟨k0, k1, k2⟩ := k
  obtain ⟨xs, n, _, hx, _, hlen, hg⟩ := DataW.trod_struct hs h
  match xs, hlen with
  | [y0, y1, y2], _ =>
    exact ⟨y0, y1, y2, n, by simpa [o0, k0] using hg 0 f0 rfl, by simpa [o1, k1] using hg 1 f1 rfl, by simpa [o2, k2] using hg 2 f2 rfl⟩
theorem open_steps {H : Type} {enc : TypeId × Value → H} {w : World} {fuel : Nat} {cs : List Value} {x : DataW H × List MemPlace} (h : DataW.trod enc Try.prog w 0 (fun _ => true) true fuel 22 cs = some x) :
    ∃ a cap, ∃ l : List St, cs = [.slice a l.length cap] ∧ StAt w w.heap.size a l ∧ l.length ≤ maxLen := by
  obtain ⟨a, len, cap, rfl, hl, _, hm, hi⟩ := open_rows (k := 3) Try.underlying22 (by kernel_rfl) (by decide) h
  obtain ⟨l, hll, hp⟩ := list_of (p := fun i (x : St) => ∃ b off, a = some ⟨b, off, none⟩ ∧ b < w.heap.size ∧ StCells w b (off + i * 3) x) (fun i hil => by
    obtain ⟨b, off, n, y, cs', rfl, hb, hlen, hc, ht⟩ := hi i hil
    match cs', hlen with
    | [c0, c1, c2], _ =>
      obtain ⟨y0, y1, y2, m, t0, t1, t2⟩ := trod_three Try.underlying31 ⟨rfl, rfl, rfl⟩ ⟨int_cells, int_cells, bool_cells⟩ ht
      obtain ⟨a0, e0, _, w0⟩ := DataW.trod_int Try.underlying3 t0
      obtain ⟨a1, e1, _, w1⟩ := DataW.trod_int Try.underlying3 t1
      obtain ⟨a2, e2, _⟩ := DataW.trod_bool Try.underlying4 t2
      simp only [List.cons.injEq, and_true] at e0 e1 e2
      subst e0 e1 e2
      exact ⟨⟨a0, a1, a2⟩, b, off, rfl, hb, hc 0 (by decide), hc 1 (by decide), hc 2 (by decide)⟩)
  exact ⟨a, cap, l, by rw [hll], fun i hil => hp i (by omega), by omega⟩
end Go.Proofs.Ytnifdbhihbjeaaa
