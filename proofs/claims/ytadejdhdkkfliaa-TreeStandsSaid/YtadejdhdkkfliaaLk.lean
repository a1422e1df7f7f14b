/- Links and names of bridges that came in as arguments, as plain data and as they lie. No condition. -/
import Derived.Test.YtadejdhdkkfliaaOpen
import Derived.Test.YtadejdhdkkfliaaTrow
namespace Go.Proofs.Ytadejdhdkkfliaa
open Go.ChangeShapes Go.WideShapes Go.ChangeAt Go.RowKit Go.Deep
set_option maxRecDepth 100000

structure Li where
  a : Int
  pa : Int
  b : Int
  pb : Int
  ca : Int
  cb : Int
def li0 : Li := ⟨0, 0, 0, 0, 0, 0⟩
instance : Inhabited Li := ⟨li0⟩
def Li.lk (l : Li) : Lk := ⟨l.a.toNat, l.pa, l.b.toNat, l.pb, l.ca, l.cb⟩
structure Li.ok (l : Li) : Prop where
  a : In64 l.a
  pa : In64 l.pa
  b : In64 l.b
  pb : In64 l.pb
  ca : In64 l.ca
  cb : In64 l.cb
/-- The six cells of a link. -/
structure LiCells (w : World) (b i : Nat) (s : Li) : Prop where
  c0 : w.cell? ⟨b, i, none⟩ = some (.int .i64 s.a)
  c1 : w.cell? ⟨b, i + 1, none⟩ = some (.int .i64 s.pa)
  c2 : w.cell? ⟨b, i + 2, none⟩ = some (.int .i64 s.b)
  c3 : w.cell? ⟨b, i + 3, none⟩ = some (.int .i64 s.pb)
  c4 : w.cell? ⟨b, i + 4, none⟩ = some (.int .i64 s.ca)
  c5 : w.cell? ⟨b, i + 5, none⟩ = some (.int .i64 s.cb)
theorem LiCells.below {w w' : World} {B b i : Nat} {s : Li} (h : LiCells w b i s) (hb : Below B w w') (hl : b < B) : LiCells w' b i s := by
  have e := fun k => hb.cell (p := ⟨b, k, none⟩) hl
  exact ⟨(e i).trans h.c0, (e (i + 1)).trans h.c1, (e (i + 2)).trans h.c2, (e (i + 3)).trans h.c3, (e (i + 4)).trans h.c4, (e (i + 5)).trans h.c5⟩
def LiAt (w : World) (B : Nat) (A : Option Addr) (l : List Li) : Prop := ∀ k, k < l.length → ∃ b off, A = some ⟨b, off, none⟩ ∧ b < B ∧ LiCells w b (off + k * 6) (l.getD k li0)
theorem LiAt.below {w w' : World} {B : Nat} {A : Option Addr} {l : List Li} (h : LiAt w B A l) (hb : Below B w w') : LiAt w' B A l := fun k hk => by
  obtain ⟨b, off, e, hl, hc⟩ := h k hk
  exact ⟨b, off, e, hl, hc.below hb hl⟩
theorem LiAt.more {w : World} {B B' : Nat} {A : Option Addr} {l : List Li} (h : LiAt w B A l) (hB : B ≤ B') : LiAt w B' A l := fun k hk => by
  obtain ⟨b, off, e, hl, hc⟩ := h k hk
  exact ⟨b, off, e, by omega, hc⟩
/-- Numbers that lie in a row. -/
def IdAt (w : World) (B : Nat) (A : Option Addr) (n : Nat) (f : Nat → Int) : Prop := ∀ k, k < n → ∃ b off, A = some ⟨b, off, none⟩ ∧ b < B ∧ w.cell? ⟨b, off + k, none⟩ = some (.int .i64 (f k))
theorem IdAt.below {w w' : World} {B n : Nat} {A : Option Addr} {f : Nat → Int} (h : IdAt w B A n f) (hb : Below B w w') : IdAt w' B A n f := fun k hk => by
  obtain ⟨b, off, e, hl, hc⟩ := h k hk
  exact ⟨b, off, e, hl, (hb.cell (p := ⟨b, off + k, none⟩) hl).trans hc⟩
theorem IdAt.more {w : World} {B B' n : Nat} {A : Option Addr} {f : Nat → Int} (h : IdAt w B A n f) (hB : B ≤ B') : IdAt w B' A n f := fun k hk => by
  obtain ⟨b, off, e, hl, hc⟩ := h k hk
  exact ⟨b, off, e, by omega, hc⟩
theorem IsRow.id {w : World} {A : Option Addr} {len cap : Nat} {zs : List Int} (h : IsRow .i64 w A len cap zs) : IdAt w w.heap.size A len (fun k => zs.getD k 0) := fun _ hk => h.at_ hk
theorem lint_cells : Try.prog.cellsOf 3 = 1 := by kernel_rfl
theorem trod_six {H : Type} {enc : TypeId × Value → H} {w : World} {base : Nat} {spare : Nat → Bool} {held : Bool} {P : Program} {t : TypeId} {f0 f1 f2 f3 f4 f5 : Field} {n : Nat} {c0 c1 c2 c3 c4 c5 : Value} {y : DataW H × List MemPlace} (hs : P.underlying t = some (.struct #[f0, f1, f2, f3, f4, f5]))
    (o : f0.offset = 0 ∧ f1.offset = 1 ∧ f2.offset = 2 ∧ f3.offset = 3 ∧ f4.offset = 4 ∧ f5.offset = 5) (k : P.cellsOf f0.type = 1 ∧ P.cellsOf f1.type = 1 ∧ P.cellsOf f2.type = 1 ∧ P.cellsOf f3.type = 1 ∧ P.cellsOf f4.type = 1 ∧ P.cellsOf f5.type = 1)
    (h : DataW.trod enc P w base spare held n t [c0, c1, c2, c3, c4, c5] = some y) :
    ∃ (y0 y1 y2 y3 y4 y5 : DataW H × List MemPlace) (n : Nat), DataW.trod enc P w base spare held n f0.type [c0] = some y0 ∧ DataW.trod enc P w base spare held n f1.type [c1] = some y1 ∧ DataW.trod enc P w base spare held n f2.type [c2] = some y2 ∧ DataW.trod enc P w base spare held n f3.type [c3] = some y3 ∧ DataW.trod enc P w base spare held n f4.type [c4] = some y4 ∧ DataW.trod enc P w base spare held n f5.type [c5] = some y5 := by
  obtain ⟨o0, o1, o2, o3, o4, o5⟩ := o
  obtain ⟨k0, k1, k2, k3, k4, k5⟩ := k
  obtain ⟨xs, n, _, hx, _, hlen, hg⟩ := DataW.trod_struct hs h
  match xs, hlen with
  | [y0, y1, y2, y3, y4, y5], _ =>
    exact ⟨y0, y1, y2, y3, y4, y5, n, by simpa [o0, k0] using hg 0 f0 rfl, by simpa [o1, k1] using hg 1 f1 rfl, by simpa [o2, k2] using hg 2 f2 rfl, by simpa [o3, k3] using hg 3 f3 rfl, by simpa [o4, k4] using hg 4 f4 rfl, by simpa [o5, k5] using hg 5 f5 rfl⟩
theorem open_links {H : Type} {enc : TypeId × Value → H} {w : World} {fuel : Nat} {cs : List Value} {x : DataW H × List MemPlace} (h : DataW.trod enc Try.prog w 0 (fun _ => true) true fuel 56 cs = some x) :
    ∃ a cap, ∃ l : List Li, cs = [.slice a l.length cap] ∧ LiAt w w.heap.size a l ∧ (∀ x ∈ l, x.ok) ∧ l.length ≤ maxLen := by
  obtain ⟨a, len, cap, rfl, hl, _, hm, hi⟩ := open_rows (k := 6) Try.underlying56 (by kernel_rfl) (by decide) h
  obtain ⟨l, hll, hp⟩ := list_of (p := fun i (x : Li) => (∃ b off, a = some ⟨b, off, none⟩ ∧ b < w.heap.size ∧ LiCells w b (off + i * 6) x) ∧ x.ok) (fun i hil => by
    obtain ⟨b, off, n, y, cs', rfl, hb, hlen, hc, ht⟩ := hi i hil
    match cs', hlen with
    | [c0, c1, c2, c3, c4, c5], _ =>
      obtain ⟨y0, y1, y2, y3, y4, y5, m, t0, t1, t2, t3, t4, t5⟩ := trod_six Try.underlying99 ⟨rfl, rfl, rfl, rfl, rfl, rfl⟩ ⟨lint_cells, lint_cells, lint_cells, lint_cells, lint_cells, lint_cells⟩ ht
      obtain ⟨a0, e0, _, w0⟩ := DataW.trod_int Try.underlying3 t0
      obtain ⟨a1, e1, _, w1⟩ := DataW.trod_int Try.underlying3 t1
      obtain ⟨a2, e2, _, w2⟩ := DataW.trod_int Try.underlying3 t2
      obtain ⟨a3, e3, _, w3⟩ := DataW.trod_int Try.underlying3 t3
      obtain ⟨a4, e4, _, w4⟩ := DataW.trod_int Try.underlying3 t4
      obtain ⟨a5, e5, _, w5⟩ := DataW.trod_int Try.underlying3 t5
      simp only [List.cons.injEq, and_true] at e0 e1 e2 e3 e4 e5
      subst e0 e1 e2 e3 e4 e5
      exact ⟨⟨a0, a1, a2, a3, a4, a5⟩, ⟨b, off, rfl, hb, hc 0 (by decide), hc 1 (by decide), hc 2 (by decide), hc 3 (by decide), hc 4 (by decide), hc 5 (by decide)⟩, wf_in w0, wf_in w1, wf_in w2, wf_in w3, wf_in w4, wf_in w5⟩)
  refine ⟨a, cap, l, by rw [hll], fun i hil => ?_, fun x hx => ?_, by omega⟩
  · exact (hp i (by omega)).1
  · obtain ⟨i, hi', rfl⟩ := List.getElem_of_mem hx
    have := (hp i (by omega)).2
    rwa [List.getD_eq_getElem?_getD, List.getElem?_eq_getElem hi'] at this
end Go.Proofs.Ytadejdhdkkfliaa
