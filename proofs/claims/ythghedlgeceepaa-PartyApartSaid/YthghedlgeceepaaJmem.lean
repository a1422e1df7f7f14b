/- Tables of cells, as plain rows of pairs and as they lie; tables that came in as arguments. No condition. -/
import Derived.Test.YthghedlgeceepaaOpen
import Derived.Test.YthghedlgeceepaaBel
namespace Go.Proofs.Ythghedlgeceepaa
open Go.ChangeShapes Go.WideShapes Go.ChangeAt Go.RowKit Go.Deep
set_option maxRecDepth 100000

/-- A cell: the state that comes, and the act. -/
abbrev Ce := Int × Int
abbrev Tb := List (List Ce)
def ce0 : Ce := (0, 0)
theorem bel_more {B B' : Nat} {w w' : World} (h : Below B w w') (hB : B' ≤ B) : Below B' w w' := h.mono hB
/-- A row of cells as it lies. -/
def CrAt (w : World) (B : Nat) (A : Option Addr) (r : List Ce) : Prop := ∀ k, k < r.length → ∃ b off, A = some ⟨b, off, none⟩ ∧ b < B ∧ w.cell? ⟨b, off + k * 2, none⟩ = some (.int .i64 (r.getD k ce0).1) ∧ w.cell? ⟨b, off + k * 2 + 1, none⟩ = some (.int .i64 (r.getD k ce0).2)
/-- A table as it lies: a row of rows. -/
def TbAt (w : World) (B : Nat) (A : Option Addr) (t : Tb) : Prop := ∀ s, s < t.length → ∃ b off a c, A = some ⟨b, off, none⟩ ∧ b < B ∧ w.cell? ⟨b, off + s, none⟩ = some (.slice a (t.getD s []).length c) ∧ CrAt w B a (t.getD s [])
section
variable {w w' : World} {B B' : Nat} {A : Option Addr} {r : List Ce} {t : Tb}
theorem CrAt.below (h : CrAt w B A r) (hb : Below B w w') : CrAt w' B A r := fun k hk => by
  obtain ⟨b, off, e, hl, p, q⟩ := h k hk
  exact ⟨b, off, e, hl, (hb.cell (p := ⟨b, off + k * 2, none⟩) hl).trans p, (hb.cell (p := ⟨b, off + k * 2 + 1, none⟩) hl).trans q⟩
theorem CrAt.more (h : CrAt w B A r) (hB : B ≤ B') : CrAt w B' A r := fun k hk => by
  obtain ⟨b, off, e, hl, p, q⟩ := h k hk
  exact ⟨b, off, e, by omega, p, q⟩
theorem TbAt.below (h : TbAt w B A t) (hb : Below B w w') : TbAt w' B A t := fun s hs => by
  obtain ⟨b, off, a, c, e, hl, p, q⟩ := h s hs
  exact ⟨b, off, a, c, e, hl, (hb.cell (p := ⟨b, off + s, none⟩) hl).trans p, q.below hb⟩
theorem TbAt.more (h : TbAt w B A t) (hB : B ≤ B') : TbAt w B' A t := fun s hs => by
  obtain ⟨b, off, a, c, e, hl, p, q⟩ := h s hs
  exact ⟨b, off, a, c, e, by omega, p, q.more hB⟩
theorem TbAt.go (h : TbAt w w.heap.size A t) (hb : Below w.heap.size w w') : TbAt w' w'.heap.size A t := (h.below hb).more hb.size
theorem TbAt.keep (h : TbAt w B A t) (hb : Below B w w') (hB : B ≤ w'.heap.size) : TbAt w' w'.heap.size A t := (h.below hb).more hB
end
theorem tint_cells : Try.prog.cellsOf 3 = 1 := by kernel_rfl
theorem trod_two {H : Type} {enc : TypeId × Value → H} {w : World} {base : Nat} {spare : Nat → Bool} {held : Bool} {P : Program} {t : TypeId} {f0 f1 : Field} {n : Nat} {c0 c1 : Value} {y : DataW H × List MemPlace} (hs : P.underlying t = some (.struct #[f0, f1]))
    (o : f0.offset = 0 ∧ f1.offset = 1) (k : P.cellsOf f0.type = 1 ∧ P.cellsOf f1.type = 1) (h : DataW.trod enc P w base spare held n t [c0, c1] = some y) :
    ∃ (y0 y1 : DataW H × List MemPlace) (n : Nat), DataW.trod enc P w base spare held n f0.type [c0] = some y0 ∧ DataW.trod enc P w base spare held n f1.type [c1] = some y1 := by
  obtain ⟨o0, o1⟩ := o
  obtain ⟨k0, k1⟩ := k
  obtain ⟨xs, n, _, hx, _, hlen, hg⟩ := DataW.trod_struct hs h
  match xs, hlen with
  | [y0, y1], _ =>
    exact ⟨y0, y1, n, by simpa [o0, k0] using hg 0 f0 rfl, by simpa [o1, k1] using hg 1 f1 rfl⟩
theorem open_cells {H : Type} {enc : TypeId × Value → H} {w : World} {fuel : Nat} {cs : List Value} {x : DataW H × List MemPlace} (h : DataW.trod enc Try.prog w 0 (fun _ => true) true fuel 130 cs = some x) :
    ∃ a cap, ∃ l : List Ce, cs = [.slice a l.length cap] ∧ CrAt w w.heap.size a l ∧ l.length ≤ maxLen := by
  obtain ⟨a, len, cap, rfl, hl, _, hm, hi⟩ := open_rows (k := 2) Try.underlying130 (by kernel_rfl) (by decide) h
  obtain ⟨l, hll, hp⟩ := list_of (p := fun i (x : Ce) => ∃ b off, a = some ⟨b, off, none⟩ ∧ b < w.heap.size ∧ w.cell? ⟨b, off + i * 2, none⟩ = some (.int .i64 x.1) ∧ w.cell? ⟨b, off + i * 2 + 1, none⟩ = some (.int .i64 x.2)) (fun i hil => by
    obtain ⟨b, off, n, y, cs', rfl, hb, hlen, hc, ht⟩ := hi i hil
    match cs', hlen with
    | [c0, c1], _ =>
      obtain ⟨y0, y1, m, t0, t1⟩ := trod_two Try.underlying119 ⟨rfl, rfl⟩ ⟨tint_cells, tint_cells⟩ ht
      obtain ⟨a0, e0, _, w0⟩ := DataW.trod_int Try.underlying3 t0
      obtain ⟨a1, e1, _, w1⟩ := DataW.trod_int Try.underlying3 t1
      simp only [List.cons.injEq, and_true] at e0 e1
      subst e0 e1
      exact ⟨⟨a0, a1⟩, b, off, rfl, hb, hc 0 (by decide), hc 1 (by decide)⟩)
  exact ⟨a, cap, l, by rw [hll], fun i hil => hp i (by omega), by omega⟩
theorem open_table {H : Type} {enc : TypeId × Value → H} {w : World} {fuel : Nat} {cs : List Value} {x : DataW H × List MemPlace} (h : DataW.trod enc Try.prog w 0 (fun _ => true) true fuel 123 cs = some x) :
    ∃ a cap, ∃ l : Tb, cs = [.slice a l.length cap] ∧ TbAt w w.heap.size a l ∧ l.length ≤ maxLen ∧ ∀ r ∈ l, r.length ≤ maxLen := by
  obtain ⟨a, len, cap, rfl, hl, _, hm, hi⟩ := open_rows (k := 1) Try.underlying123 (by kernel_rfl) (by decide) h
  obtain ⟨l, hll, hp⟩ := list_of (p := fun i (x : List Ce) => (∃ b off a' c', a = some ⟨b, off, none⟩ ∧ b < w.heap.size ∧ w.cell? ⟨b, off + i, none⟩ = some (.slice a' x.length c') ∧ CrAt w w.heap.size a' x) ∧ x.length ≤ maxLen) (fun i hil => by
    obtain ⟨b, off, n, y, cs', rfl, hb, hlen, hc, ht⟩ := hi i hil
    obtain ⟨a', c', l', e, hr, hm'⟩ := open_cells ht
    subst e
    have h0 := hc 0 (by decide)
    rw [Nat.mul_one] at h0
    exact ⟨l', ⟨b, off, a', c', rfl, hb, h0, hr⟩, hm'⟩)
  refine ⟨a, cap, l, by rw [hll], fun i hil => (hp i (by omega)).1, by omega, fun r hr => ?_⟩
  obtain ⟨i, hi', rfl⟩ := List.getElem_of_mem hr
  have := (hp i (by omega)).2
  rwa [List.getD_eq_getElem?_getD, List.getElem?_eq_getElem hi'] at this
/-- The state is there. -/
def hasB (t : Tb) (s : Int) : Bool := decide (0 ≤ s) && decide (s < t.length)
/-- The cell of a state and an event; none: there is none. -/
def cellT (t : Tb) (s e : Int) : Option Ce := if hasB t s = true ∧ 0 ≤ e ∧ e < (t.getD s.toNat []).length then some ((t.getD s.toNat []).getD e.toNat ce0) else none
def rowGood (t : Tb) (r : List Ce) : Bool := decide (r.length = (t.getD 0 []).length) && r.all fun c => hasB t c.1
def goodT (t : Tb) : Bool := t.all (rowGood t) && decide (0 < t.length)
def runT (t : Tb) : Int → List Int → List Ce
  | _, [] => []
  | s, e :: es => match cellT t s e with
    | some c => c :: runT t c.1 es
    | none => runT t s es
end Go.Proofs.Ythghedlgeceepaa
