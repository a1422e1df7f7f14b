/- Ports' views (layer 17) as they lie in memory: attributes, numbers, views; as arguments, and as a row of one's own. No condition but bounds on lengths. -/
import Derived.Test.YtaieopejabpegaaOpen
import Derived.Test.YtaieopejabpegaaBel
import Derived.Test.YtaieopejabpegaaOwn
import Derived.Test.YtaieopejabpegaaSnP
import Derived.Lib.SmallJoins
namespace Go.Proofs.Ytaieopejabpegaa
open Go.Joins Go.ChangeShapes Go.WideShapes Go.ChangeAt Go.RowKit Go.Deep
set_option maxRecDepth 100000

def IntAt (w : World) (B : Nat) (A : Option Addr) (l : List Int) : Prop := ∀ k, k < l.length → ∃ b off, A = some ⟨b, off, none⟩ ∧ b < B ∧ w.cell? ⟨b, off + k, none⟩ = some (.int .i64 (l.getD k 0))
def AtsAt (w : World) (B : Nat) (A : Option Addr) (l : List At) : Prop := ∀ k, k < l.length → ∃ b off, A = some ⟨b, off, none⟩ ∧ b < B ∧ w.cell? ⟨b, off + k * 2, none⟩ = some (.int .i64 (l.getD k at0).t) ∧ w.cell? ⟨b, off + k * 2 + 1, none⟩ = some (.int .i64 (l.getD k at0).v)
theorem IntAt.below {w w' : World} {B : Nat} {A : Option Addr} {l : List Int} (h : IntAt w B A l) (hb : Below B w w') : IntAt w' B A l := fun k hk => by
  obtain ⟨b, off, e, hl, c⟩ := h k hk
  exact ⟨b, off, e, hl, (hb.cell (p := ⟨b, off + k, none⟩) hl).trans c⟩
theorem IntAt.more {w : World} {B B' : Nat} {A : Option Addr} {l : List Int} (h : IntAt w B A l) (hB : B ≤ B') : IntAt w B' A l := fun k hk => by
  obtain ⟨b, off, e, hl, c⟩ := h k hk
  exact ⟨b, off, e, Nat.lt_of_lt_of_le hl hB, c⟩
theorem AtsAt.below {w w' : World} {B : Nat} {A : Option Addr} {l : List At} (h : AtsAt w B A l) (hb : Below B w w') : AtsAt w' B A l := fun k hk => by
  obtain ⟨b, off, e, hl, c, d⟩ := h k hk
  exact ⟨b, off, e, hl, (hb.cell (p := ⟨b, off + k * 2, none⟩) hl).trans c, (hb.cell (p := ⟨b, off + k * 2 + 1, none⟩) hl).trans d⟩
theorem AtsAt.more {w : World} {B B' : Nat} {A : Option Addr} {l : List At} (h : AtsAt w B A l) (hB : B ≤ B') : AtsAt w B' A l := fun k hk => by
  obtain ⟨b, off, e, hl, c⟩ := h k hk
  exact ⟨b, off, e, Nat.lt_of_lt_of_le hl hB, c⟩
theorem IntAt.nil (w : World) (B : Nat) (A : Option Addr) : IntAt w B A [] := fun _ hk => absurd hk (Nat.not_lt_zero _)
theorem AtsAt.nil (w : World) (B : Nat) (A : Option Addr) : AtsAt w B A [] := fun _ hk => absurd hk (Nat.not_lt_zero _)
/-- A view with the places of its rows. -/
structure Vx where
  op : Bool
  A : Option Addr
  c : Nat
  xs : List At
  A' : Option Addr
  c' : Nat
  bs : List Int
def Vx.v (x : Vx) : Vw := ⟨x.op, x.xs, x.bs⟩
def vx0 : Vx := ⟨false, none, 0, [], none, 0, []⟩
instance : Inhabited Vx := ⟨vx0⟩
def Vx.cells (x : Vx) : List Value := [.bool x.op, .slice x.A x.xs.length x.c, .slice x.A' x.bs.length x.c']
structure VxCells (w : World) (b i : Nat) (x : Vx) : Prop where
  c0 : w.cell? ⟨b, i, none⟩ = some (.bool x.op)
  c1 : w.cell? ⟨b, i + 1, none⟩ = some (.slice x.A x.xs.length x.c)
  c2 : w.cell? ⟨b, i + 2, none⟩ = some (.slice x.A' x.bs.length x.c')
theorem VxCells.below {w w' : World} {B b i : Nat} {x : Vx} (h : VxCells w b i x) (hb : Below B w w') (hl : b < B) : VxCells w' b i x :=
  ⟨(hb.cell (p := ⟨b, i, none⟩) hl).trans h.c0, (hb.cell (p := ⟨b, i + 1, none⟩) hl).trans h.c1, (hb.cell (p := ⟨b, i + 2, none⟩) hl).trans h.c2⟩
/-- The rows that a view leads to. -/
def Vx.rows (w : World) (B : Nat) (x : Vx) : Prop := AtsAt w B x.A x.xs ∧ IntAt w B x.A' x.bs
theorem Vx.rows_below {w w' : World} {B : Nat} {x : Vx} (h : x.rows w B) (hb : Below B w w') : x.rows w' B := ⟨h.1.below hb, h.2.below hb⟩
theorem Vx.rows_more {w : World} {B B' : Nat} {x : Vx} (h : x.rows w B) (hB : B ≤ B') : x.rows w B' := ⟨h.1.more hB, h.2.more hB⟩
def VxAt (w : World) (B : Nat) (A : Option Addr) (l : List Vx) : Prop := ∀ k, k < l.length → (∃ b off, A = some ⟨b, off, none⟩ ∧ b < B ∧ VxCells w b (off + k * 3) (l.getD k vx0)) ∧ (l.getD k vx0).rows w B
theorem VxAt.below {w w' : World} {B : Nat} {A : Option Addr} {l : List Vx} (h : VxAt w B A l) (hb : Below B w w') : VxAt w' B A l := fun k hk => by
  obtain ⟨⟨b, off, e, hl, c⟩, h1⟩ := h k hk
  exact ⟨⟨b, off, e, hl, c.below hb hl⟩, Vx.rows_below h1 hb⟩
theorem VxAt.more {w : World} {B B' : Nat} {A : Option Addr} {l : List Vx} (h : VxAt w B A l) (hB : B ≤ B') : VxAt w B' A l := fun k hk => by
  obtain ⟨⟨b, off, e, hl, c⟩, h1⟩ := h k hk
  exact ⟨⟨b, off, e, Nat.lt_of_lt_of_le hl hB, c⟩, Vx.rows_more h1 hB⟩
/-- As arguments. -/
theorem open_nums1 {H : Type} {enc : TypeId × Value → H} {w : World} {fuel : Nat} {cs : List Value} {x : DataW H × List MemPlace} {t e : TypeId} (ht : Try.prog.underlying t = some (.slice e)) (he : Try.prog.underlying e = some (.int .i64)) (ce : Try.prog.cellsOf e = 1)
    (h : DataW.trod enc Try.prog w 0 (fun _ => true) true fuel t cs = some x) : ∃ a cap, ∃ l : List Int, cs = [.slice a l.length cap] ∧ IntAt w w.heap.size a l ∧ l.length ≤ cap ∧ (a = none → cap = 0) ∧ cap ≤ maxLen := by
  obtain ⟨a, len, cap, rfl, hl, hn, hm, hi⟩ := open_rows (k := 1) ht ce (by decide) h
  obtain ⟨l, hll, hp⟩ := list_of (p := fun i (x : Int) => ∃ b off, a = some ⟨b, off, none⟩ ∧ b < w.heap.size ∧ w.cell? ⟨b, off + i, none⟩ = some (.int .i64 x)) (fun i hil => by
    obtain ⟨b, off, n, y, cs', rfl, hb, hlen, hc, ht⟩ := hi i hil
    obtain ⟨a0, e0, _, _⟩ := DataW.trod_int he ht
    have c0 := hc 0 (by decide)
    rw [e0] at c0
    rw [Nat.mul_one] at c0
    exact ⟨a0, b, off, rfl, hb, c0⟩)
  exact ⟨a, cap, l, by rw [hll], fun i hil => hp i (by omega), by omega, hn, hm⟩
theorem open_ats {H : Type} {enc : TypeId × Value → H} {w : World} {fuel : Nat} {cs : List Value} {x : DataW H × List MemPlace} {t : TypeId} (ht : Try.prog.underlying t = some (.slice 24))
    (h : DataW.trod enc Try.prog w 0 (fun _ => true) true fuel t cs = some x) : ∃ a cap, ∃ l : List At, cs = [.slice a l.length cap] ∧ AtsAt w w.heap.size a l ∧ l.length ≤ cap ∧ (a = none → cap = 0) ∧ cap ≤ maxLen := by
  obtain ⟨a, len, cap, rfl, hl, hn, hm, hi⟩ := open_rows (k := 2) ht (by kernel_rfl) (by decide) h
  obtain ⟨l, hll, hp⟩ := list_of (p := fun i (x : At) => ∃ b off, a = some ⟨b, off, none⟩ ∧ b < w.heap.size ∧ w.cell? ⟨b, off + i * 2, none⟩ = some (.int .i64 x.t) ∧ w.cell? ⟨b, off + i * 2 + 1, none⟩ = some (.int .i64 x.v)) (fun i hil => by
    obtain ⟨b, off, n, y, cs', rfl, hb, hlen, hc, ht⟩ := hi i hil
    match cs', hlen with
    | [c0, c1], _ =>
      obtain ⟨xs, n', _, _, _, hlen', hg⟩ := DataW.trod_struct Try.underlying24 ht
      match xs, hlen' with
      | [y0, y1], _ =>
        have k1 : Try.prog.cellsOf 3 = 1 := by kernel_rfl
        obtain ⟨a0, e0, _, _⟩ := DataW.trod_int Try.underlying3 (by simpa [k1] using hg 0 _ rfl)
        obtain ⟨a1, e1, _, _⟩ := DataW.trod_int Try.underlying3 (by simpa [k1] using hg 1 _ rfl)
        have d0 := hc 0 (by decide)
        have d1 := hc 1 (by decide)
        simp only [List.cons.injEq, and_true] at e0 e1
        subst e0 e1
        exact ⟨⟨a0, a1⟩, b, off, rfl, hb, d0, d1⟩)
  exact ⟨a, cap, l, by rw [hll], fun i hil => hp i (by omega), by omega, hn, hm⟩
theorem open_views {H : Type} {enc : TypeId × Value → H} {w : World} {fuel : Nat} {cs : List Value} {x : DataW H × List MemPlace} (h : DataW.trod enc Try.prog w 0 (fun _ => true) true fuel 22 cs = some x) :
    ∃ a cap, ∃ l : List Vx, cs = [.slice a l.length cap] ∧ VxAt w w.heap.size a l ∧ (∀ x ∈ l, x.xs.length ≤ x.c ∧ x.bs.length ≤ x.c' ∧ (x.A = none → x.c = 0) ∧ (x.A' = none → x.c' = 0) ∧ x.c ≤ maxLen ∧ x.c' ≤ maxLen) ∧ l.length ≤ cap ∧ (a = none → cap = 0) ∧ cap ≤ maxLen := by
  obtain ⟨a, len, cap, rfl, hl, hn, hm, hi⟩ := open_rows (k := 3) Try.underlying22 (by kernel_rfl) (by decide) h
  obtain ⟨l, hll, hp⟩ := list_of (p := fun i (x : Vx) => ((∃ b off, a = some ⟨b, off, none⟩ ∧ b < w.heap.size ∧ VxCells w b (off + i * 3) x) ∧ x.rows w w.heap.size) ∧ (x.xs.length ≤ x.c ∧ x.bs.length ≤ x.c' ∧ (x.A = none → x.c = 0) ∧ (x.A' = none → x.c' = 0) ∧ x.c ≤ maxLen ∧ x.c' ≤ maxLen)) (fun i hil => by
    obtain ⟨b, off, n, y, cs', rfl, hb, hlen, hc, ht⟩ := hi i hil
    match cs', hlen with
    | [c0, c1, c2], _ =>
      obtain ⟨xs, n', _, _, _, hlen', hg⟩ := DataW.trod_struct Try.underlying43 ht
      match xs, hlen' with
      | [y0, y1, y2], _ =>
        have k0 : Try.prog.cellsOf 4 = 1 := by kernel_rfl
        have k1 : Try.prog.cellsOf 33 = 1 := by kernel_rfl
        have k2 : Try.prog.cellsOf 29 = 1 := by kernel_rfl
        obtain ⟨b0, e0, _⟩ := DataW.trod_bool Try.underlying4 (by simpa [k0] using hg 0 _ rfl)
        obtain ⟨A1, p1, l1, e1, h1, h1', h1'', h1m⟩ := open_ats Try.underlying33 (by simpa [k1] using hg 1 _ rfl)
        obtain ⟨A2, p2, l2, e2, h2, h2', h2'', h2m⟩ := open_nums1 Try.underlying29 Try.underlying3 (by kernel_rfl) (by simpa [k2] using hg 2 _ rfl)
        have d0 := hc 0 (by decide)
        have d1 := hc 1 (by decide)
        have d2 := hc 2 (by decide)
        simp only [List.cons.injEq, and_true] at e0 e1 e2
        subst e0 e1 e2
        exact ⟨⟨b0, A1, p1, l1, A2, p2, l2⟩, ⟨⟨b, off, rfl, hb, d0, d1, d2⟩, h1, h2⟩, h1', h2', h1'', h2'', h1m, h2m⟩)
  refine ⟨a, cap, l, by rw [hll], fun i hil => (hp i (by omega)).1, fun x hx => ?_, by omega, hn, hm⟩
  obtain ⟨i, hi, rfl⟩ := List.mem_iff_getElem.1 hx
  have := (hp i (by omega)).2
  rw [List.getD_eq_getElem?_getD, List.getElem?_eq_getElem hi] at this
  exact this
/-- A row of the document's views, of one's own. -/
def cellsX : List Vx → List Value
  | [] => []
  | x :: l => x.cells ++ cellsX l
theorem x3_len (x : Vx) : x.cells.length = 3 := rfl
theorem cellsX_app (l l' : List Vx) : cellsX (l ++ l') = cellsX l ++ cellsX l' := by
  induction l with
  | nil => rfl
  | cons x l ih =>
    show x.cells ++ cellsX (l ++ l') = (x.cells ++ cellsX l) ++ cellsX l'
    rw [ih, List.append_assoc]
theorem cellsX_at (l : List Vx) (i : Nat) (hi : i < l.length) (k : Nat) (hk : k < 3) : (cellsX l)[i * 3 + k]? = (l.getD i vx0).cells[k]? := by
  induction l generalizing i with
  | nil => simp at hi
  | cons x l ih =>
    unfold cellsX
    cases i with
    | zero => rw [Nat.zero_mul, Nat.zero_add, List.getElem?_append_left (by rw [x3_len]; exact hk)]; rfl
    | succ i =>
      rw [List.getElem?_append_right (by rw [x3_len]; omega), x3_len, show (i + 1) * 3 + k - 3 = i * 3 + k from by omega]
      exact ih i (by simpa using hi)
def OwnX (w : World) (base : Nat) (A : Option Addr) (c : Nat) (l : List Vx) : Prop := w.ownsRow base 38 3 (.slice A l.length c) l.length (cellsX l)
theorem OwnX.at_ {w : World} {base c : Nat} {A : Option Addr} {l : List Vx} (h : OwnX w base A c l) {k : Nat} (hk : k < l.length) : ∃ b, A = some ⟨b, 0, none⟩ ∧ base ≤ b ∧ b < w.heap.size ∧ VxCells w b (k * 3) (l.getD k vx0) := by
  obtain ⟨b, rfl, hl, hc⟩ := own_at h (by omega)
  have hj : ∀ j, j < 3 → ∀ u, (l.getD k vx0).cells[j]? = some u → w.cell? ⟨b, k * 3 + j, none⟩ = some u := fun j hj u hu => hc _ _ ((cellsX_at l k hk j hj).trans hu)
  exact ⟨b, rfl, (World.ownsRow.lt h b rfl).1, hl, hj 0 (by omega) _ rfl, hj 1 (by omega) _ rfl, hj 2 (by omega) _ rfl⟩
theorem OwnX.vx {w : World} {base c : Nat} {A : Option Addr} {l : List Vx} (h : OwnX w base A c l) (hr : ∀ k, k < l.length → (l.getD k vx0).rows w w.heap.size) : VxAt w w.heap.size A l := fun k hk => by
  obtain ⟨b, e, _, hl, hc⟩ := h.at_ hk
  exact ⟨⟨b, 0, e, hl, by rw [Nat.zero_add]; exact hc⟩, hr k hk⟩
theorem rview_info : (Try.prog.info? 38).map (fun i => (i.zero, i.size, i.bytes)) = some (some (.agg #[.bool false, .slice none 0 0, .slice none 0 0]), 3, 56) := by kernel_rfl
theorem append_x (w : World) (base : Nat) (A0 : Option Addr) (c0 n0 : Nat) (l : List Vx) (hl0 : l.length = n0) (hown : OwnX w base A0 c0 l) (g : Nat) (x : Vx) (hg : Blk w g 38 x.cells.toArray) (hn : (l.length + 1) * 56 ≤ 140737488355328) (hbase : base ≤ w.heap.size) :
    ∃ a' c' w', (Builtin.append_ #[26, 26] 26 #[.slice A0 n0 c0, .slice (some ⟨g, 0, none⟩) 1 1]).run Try.prog w = .ok (.slice a' (n0 + 1) c') w' ∧ OwnX w' base a' c' (l ++ [x]) ∧ w.grownBy w' (Value.slice A0 n0 c0).ownBlock := by
  subst hl0
  obtain ⟨i0, hi0, hz0, hz1, hz2⟩ := info_parts rview_info
  obtain ⟨a', c', w', hr, ho, hgr, _, _⟩ := append_src w base 26 26 38 i0 _ 3 56 Try.underlying26 hi0 hz0 hz1 hz2 rfl (by decide) _ l.length _ hown (some ⟨g, 0, none⟩) 1 1 (cellsX [x]) rfl (fun h => by cases h)
    (fun _ => ⟨g, 0, rfl, fun j u hu => by
      rw [Nat.zero_add, hg.cell, ← hu]
      simp [cellsX]⟩)
    (fun u hu => by
      simp only [cellsX, Vx.cells, List.append_nil, List.mem_cons, List.not_mem_nil, or_false] at hu
      rcases hu with rfl | rfl | rfl <;> rfl) (by unfold maxLen; omega) hn hbase
  refine ⟨a', c', w', hr, ?_, hgr⟩
  unfold OwnX
  rw [cellsX_app, List.length_append]
  exact ho
end Go.Proofs.Ytaieopejabpegaa
