/- Ports of a relay (layer 19) as they lie in memory: as an argument, as rows of one's own; what is sent. No condition but bounds on lengths. -/
import Derived.Test.YtnhnllkcnpbgoaaIntAt
import Derived.Test.YtnhnllkcnpbgoaaRlP
import Derived.Test.YtnhnllkcnpbgoaaPlMem
namespace Go.Proofs.Ytnhnllkcnpbgoaa
open Go.Joins Go.ChangeShapes Go.WideShapes Go.ChangeAt Go.RowKit Go.Deep
set_option maxRecDepth 100000

/-- A port with the place of its row. -/
structure Px where
  st : Int
  pv : Int
  sp : Bool
  A : Option Addr
  c : Nat
  ms : List Int
def Px.p (x : Px) : Po := ⟨x.st, x.pv, x.sp, x.ms⟩
def px0 : Px := ⟨0, 0, false, none, 0, []⟩
instance : Inhabited Px := ⟨px0⟩
def Px.cells (x : Px) : List Value := [.int .i64 x.st, .int .i64 x.pv, .bool x.sp, .slice x.A x.ms.length x.c]
structure PxCells (w : World) (b i : Nat) (x : Px) : Prop where
  c0 : w.cell? ⟨b, i, none⟩ = some (.int .i64 x.st)
  c1 : w.cell? ⟨b, i + 1, none⟩ = some (.int .i64 x.pv)
  c2 : w.cell? ⟨b, i + 2, none⟩ = some (.bool x.sp)
  c3 : w.cell? ⟨b, i + 3, none⟩ = some (.slice x.A x.ms.length x.c)
theorem PxCells.below {w w' : World} {B b i : Nat} {x : Px} (h : PxCells w b i x) (hb : Below B w w') (hl : b < B) : PxCells w' b i x :=
  ⟨(hb.cell (p := ⟨b, i, none⟩) hl).trans h.c0, (hb.cell (p := ⟨b, i + 1, none⟩) hl).trans h.c1, (hb.cell (p := ⟨b, i + 2, none⟩) hl).trans h.c2, (hb.cell (p := ⟨b, i + 3, none⟩) hl).trans h.c3⟩
def PxAt (w : World) (B : Nat) (A : Option Addr) (l : List Px) : Prop := ∀ k, k < l.length → (∃ b off, A = some ⟨b, off, none⟩ ∧ b < B ∧ PxCells w b (off + k * 4) (l.getD k px0)) ∧ IntAt w B (l.getD k px0).A (l.getD k px0).ms
theorem PxAt.below {w w' : World} {B : Nat} {A : Option Addr} {l : List Px} (h : PxAt w B A l) (hb : Below B w w') : PxAt w' B A l := fun k hk => by
  obtain ⟨⟨b, off, e, hl, c⟩, h1⟩ := h k hk
  exact ⟨⟨b, off, e, hl, c.below hb hl⟩, h1.below hb⟩
theorem PxAt.more {w : World} {B B' : Nat} {A : Option Addr} {l : List Px} (h : PxAt w B A l) (hB : B ≤ B') : PxAt w B' A l := fun k hk => by
  obtain ⟨⟨b, off, e, hl, c⟩, h1⟩ := h k hk
  exact ⟨⟨b, off, e, Nat.lt_of_lt_of_le hl hB, c⟩, h1.more hB⟩
/-- The ports are no more than is played. -/
structure PxFew (l : List Px) : Prop where
  len : l.length ≤ 10
  ms : ∀ k, k < l.length → (l.getD k px0).ms.length ≤ 40
theorem open_ports {H : Type} {enc : TypeId × Value → H} {w : World} {fuel : Nat} {cs : List Value} {x : DataW H × List MemPlace} (h : DataW.trod enc Try.prog w 0 (fun _ => true) true fuel 22 cs = some x) :
    ∃ a cap, ∃ l : List Px, cs = [.slice a l.length cap] ∧ PxAt w w.heap.size a l ∧ l.length ≤ cap ∧ (a = none → cap = 0) ∧ cap ≤ maxLen := by
  obtain ⟨a, len, cap, rfl, hl, hn, hm, hi⟩ := open_rows (k := 4) Try.underlying22 (by kernel_rfl) (by decide) h
  obtain ⟨l, hll, hp⟩ := list_of (p := fun i (x : Px) => (∃ b off, a = some ⟨b, off, none⟩ ∧ b < w.heap.size ∧ PxCells w b (off + i * 4) x) ∧ IntAt w w.heap.size x.A x.ms) (fun i hil => by
    obtain ⟨b, off, n, y, cs', rfl, hb, hlen, hc, ht⟩ := hi i hil
    match cs', hlen with
    | [c0, c1, c2, c3], _ =>
      obtain ⟨xs, n', _, _, _, hlen', hg⟩ := DataW.trod_struct Try.underlying42 ht
      match xs, hlen' with
      | [y0, y1, y2, y3], _ =>
        have k0 : Try.prog.cellsOf 3 = 1 := by kernel_rfl
        have k1 : Try.prog.cellsOf 4 = 1 := by kernel_rfl
        have k2 : Try.prog.cellsOf 36 = 1 := by kernel_rfl
        obtain ⟨a0, e0, _, _⟩ := DataW.trod_int Try.underlying3 (by simpa [k0] using hg 0 _ rfl)
        obtain ⟨a1, e1, _, _⟩ := DataW.trod_int Try.underlying3 (by simpa [k0] using hg 1 _ rfl)
        obtain ⟨b2, e2, _⟩ := DataW.trod_bool Try.underlying4 (by simpa [k0, k1] using hg 2 _ rfl)
        obtain ⟨A3, p3, l3, e3, h3, _, _, _⟩ := open_nums1 Try.underlying36 Try.underlying3 (by kernel_rfl) (by simpa [k0, k1, k2] using hg 3 _ rfl)
        have d0 := hc 0 (by decide)
        have d1 := hc 1 (by decide)
        have d2 := hc 2 (by decide)
        have d3 := hc 3 (by decide)
        simp only [List.cons.injEq, and_true] at e0 e1 e2 e3
        subst e0 e1 e2 e3
        exact ⟨⟨a0, a1, b2, A3, p3, l3⟩, ⟨b, off, rfl, hb, d0, d1, d2, d3⟩, h3⟩)
  exact ⟨a, cap, l, by rw [hll], fun i hil => hp i (by omega), by omega, hn, hm⟩
/-- Rows of ports of one's own, of elements of the type T. -/
def cellsPx : List Px → List Value
  | [] => []
  | x :: l => x.cells ++ cellsPx l
theorem px4_len (x : Px) : x.cells.length = 4 := rfl
theorem cellsPx_app (l l' : List Px) : cellsPx (l ++ l') = cellsPx l ++ cellsPx l' := by
  induction l with
  | nil => rfl
  | cons x l ih =>
    show x.cells ++ cellsPx (l ++ l') = (x.cells ++ cellsPx l) ++ cellsPx l'
    rw [ih, List.append_assoc]
theorem cellsPx_at (l : List Px) (i : Nat) (hi : i < l.length) (k : Nat) (hk : k < 4) : (cellsPx l)[i * 4 + k]? = (l.getD i px0).cells[k]? := by
  induction l generalizing i with
  | nil => simp at hi
  | cons x l ih =>
    unfold cellsPx
    cases i with
    | zero => rw [Nat.zero_mul, Nat.zero_add, List.getElem?_append_left (by rw [px4_len]; exact hk)]; rfl
    | succ i =>
      rw [List.getElem?_append_right (by rw [px4_len]; omega), px4_len, show (i + 1) * 4 + k - 4 = i * 4 + k from by omega]
      exact ih i (by simpa using hi)
def OwnPx (T : TypeId) (w : World) (base : Nat) (A : Option Addr) (c : Nat) (l : List Px) : Prop := w.ownsRow base T 4 (.slice A l.length c) l.length (cellsPx l)
theorem OwnPx.at_ {T : TypeId} {w : World} {base c : Nat} {A : Option Addr} {l : List Px} (h : OwnPx T w base A c l) {k : Nat} (hk : k < l.length) : ∃ b, A = some ⟨b, 0, none⟩ ∧ base ≤ b ∧ b < w.heap.size ∧ PxCells w b (k * 4) (l.getD k px0) := by
  obtain ⟨b, rfl, hl, hc⟩ := own_at h (by omega)
  have hj : ∀ j, j < 4 → ∀ u, (l.getD k px0).cells[j]? = some u → w.cell? ⟨b, k * 4 + j, none⟩ = some u := fun j hj u hu => hc _ _ ((cellsPx_at l k hk j hj).trans hu)
  exact ⟨b, rfl, (World.ownsRow.lt h b rfl).1, hl, hj 0 (by omega) _ rfl, hj 1 (by omega) _ rfl, hj 2 (by omega) _ rfl, hj 3 (by omega) _ rfl⟩
theorem OwnPx.px {T : TypeId} {w : World} {base c : Nat} {A : Option Addr} {l : List Px} (h : OwnPx T w base A c l) (hr : ∀ k, k < l.length → IntAt w w.heap.size (l.getD k px0).A (l.getD k px0).ms) : PxAt w w.heap.size A l := fun k hk => by
  obtain ⟨b, e, _, hl, hc⟩ := h.at_ hk
  exact ⟨⟨b, 0, e, hl, by rw [Nat.zero_add]; exact hc⟩, hr k hk⟩
theorem append_px (T TS : TypeId) (hT : Try.prog.underlying TS = some (.slice T)) (hI : (Try.prog.info? T).map (fun i => (i.zero, i.size, i.bytes)) = some (some (.agg #[.int .i64 0, .int .i64 0, .bool false, .slice none 0 0]), 4, 48)) (w : World) (base : Nat) (A0 : Option Addr) (c0 n0 : Nat) (l : List Px) (hl0 : l.length = n0) (hown : OwnPx T w base A0 c0 l) (g : Nat) (x : Px) (hg : Blk w g T x.cells.toArray) (hn : (l.length + 1) * 48 ≤ 140737488355328) (hbase : base ≤ w.heap.size) :
    ∃ a' c' w', (Builtin.append_ #[TS, TS] TS #[.slice A0 n0 c0, .slice (some ⟨g, 0, none⟩) 1 1]).run Try.prog w = .ok (.slice a' (n0 + 1) c') w' ∧ OwnPx T w' base a' c' (l ++ [x]) ∧ w.grownBy w' (Value.slice A0 n0 c0).ownBlock ∧ Moved w (.slice A0 n0 c0) (.slice a' (n0 + 1) c') := by
  subst hl0
  obtain ⟨i0, hi0, hz0, hz1, hz2⟩ := info_parts hI
  obtain ⟨a', c', w', hr, ho, hgr, hmv, _⟩ := append_src w base TS TS T i0 _ 4 48 hT hi0 hz0 hz1 hz2 rfl (by decide) _ l.length _ hown (some ⟨g, 0, none⟩) 1 1 (cellsPx [x]) rfl (fun h => by cases h)
    (fun _ => ⟨g, 0, rfl, fun j u hu => by
      rw [Nat.zero_add, hg.cell, ← hu]
      simp [cellsPx]⟩)
    (fun u hu => by
      simp only [cellsPx, Px.cells, List.append_nil, List.mem_cons, List.not_mem_nil, or_false] at hu
      rcases hu with rfl | rfl | rfl | rfl <;> rfl) (by unfold maxLen; omega) (by omega) hbase
  refine ⟨a', c', w', hr, ?_, hgr, hmv⟩
  unfold OwnPx
  rw [cellsPx_app, List.length_append]
  exact ho
/-- What is sent, as it lies: a port's number and a frame, eight cells. -/
structure SeCells (w : World) (b i : Nat) (x : Se) : Prop where
  c0 : w.cell? ⟨b, i, none⟩ = some (.int .i64 x.p)
  c1 : w.cell? ⟨b, i + 1, none⟩ = some (.int .i64 x.f.dst)
  c2 : w.cell? ⟨b, i + 2, none⟩ = some (.int .i64 x.f.src)
  c3 : w.cell? ⟨b, i + 3, none⟩ = some (.bool x.f.tagged)
  c4 : w.cell? ⟨b, i + 4, none⟩ = some (.int .i64 x.f.vid)
  c5 : w.cell? ⟨b, i + 5, none⟩ = some (.int .i64 x.f.prio)
  c6 : w.cell? ⟨b, i + 6, none⟩ = some (.int .i64 x.f.typ)
  c7 : w.cell? ⟨b, i + 7, none⟩ = some (.string x.f.data)
theorem SeCells.below {w w' : World} {B b i : Nat} {x : Se} (h : SeCells w b i x) (hb : Below B w w') (hl : b < B) : SeCells w' b i x :=
  ⟨(hb.cell (p := ⟨b, i, none⟩) hl).trans h.c0, (hb.cell (p := ⟨b, i + 1, none⟩) hl).trans h.c1, (hb.cell (p := ⟨b, i + 2, none⟩) hl).trans h.c2, (hb.cell (p := ⟨b, i + 3, none⟩) hl).trans h.c3, (hb.cell (p := ⟨b, i + 4, none⟩) hl).trans h.c4, (hb.cell (p := ⟨b, i + 5, none⟩) hl).trans h.c5, (hb.cell (p := ⟨b, i + 6, none⟩) hl).trans h.c6, (hb.cell (p := ⟨b, i + 7, none⟩) hl).trans h.c7⟩
def SeAt (w : World) (B : Nat) (A : Option Addr) (l : List Se) : Prop := ∀ k, k < l.length → ∃ b off, A = some ⟨b, off, none⟩ ∧ b < B ∧ SeCells w b (off + k * 8) (l.getD k se0)
theorem SeAt.below {w w' : World} {B : Nat} {A : Option Addr} {l : List Se} (h : SeAt w B A l) (hb : Below B w w') : SeAt w' B A l := fun k hk => by
  obtain ⟨b, off, e, hl, c⟩ := h k hk
  exact ⟨b, off, e, hl, c.below hb hl⟩
theorem SeAt.more {w : World} {B B' : Nat} {A : Option Addr} {l : List Se} (h : SeAt w B A l) (hB : B ≤ B') : SeAt w B' A l := fun k hk => by
  obtain ⟨b, off, e, hl, c⟩ := h k hk
  exact ⟨b, off, e, Nat.lt_of_lt_of_le hl hB, c⟩
end Go.Proofs.Ytnhnllkcnpbgoaa
