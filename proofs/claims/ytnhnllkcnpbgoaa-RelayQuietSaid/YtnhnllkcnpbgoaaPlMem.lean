/- Places (layer 18) as they lie in memory: rows of one's own; sets of blocks that grow. No condition but bounds on lengths. -/
import Derived.Test.YtnhnllkcnpbgoaaOwn
import Derived.Test.YtnhnllkcnpbgoaaBel
import Derived.Test.YtnhnllkcnpbgoaaFbP
namespace Go.Proofs.Ytnhnllkcnpbgoaa
open Go.RowKit
set_option maxRecDepth 100000

def Pl.cells (x : Pl) : List Value := [.int .i64 x.v, .int .i64 x.m, .int .i64 x.p, .int .i64 x.s, .bool x.st]
def Pl.val (x : Pl) : Value := .agg x.cells.toArray
def plL : List Pl → List Value
  | [] => []
  | x :: l => x.cells ++ plL l
theorem pl5_len (x : Pl) : x.cells.length = 5 := rfl
theorem plL_app (l m : List Pl) : plL (l ++ m) = plL l ++ plL m := by
  induction l with
  | nil => rfl
  | cons a l ih =>
    show a.cells ++ plL (l ++ m) = (a.cells ++ plL l) ++ plL m
    rw [ih, List.append_assoc]
theorem plL_len (l : List Pl) : (plL l).length = l.length * 5 := by
  induction l with
  | nil => rfl
  | cons a l ih => unfold plL; rw [List.length_append, pl5_len, ih, List.length_cons]; omega
theorem plL_at (l : List Pl) (k : Nat) (h : k < l.length) (j : Nat) (hj : j < 5) : (plL l)[k * 5 + j]? = (l.getD k pl0).cells[j]? := by
  induction l generalizing k with
  | nil => simp at h
  | cons x l ih =>
    unfold plL
    cases k with
    | zero => rw [Nat.zero_mul, Nat.zero_add, List.getElem?_append_left (by rw [pl5_len]; exact hj)]; rfl
    | succ k =>
      rw [List.getElem?_append_right (by rw [pl5_len]; omega), pl5_len, show (k + 1) * 5 + j - 5 = k * 5 + j from by omega]
      exact ih k (by simpa using h)
theorem plL_one (l : List Pl) : ∀ u ∈ plL l, u.oneCell' = true := by
  induction l with
  | nil => intro u hu; cases hu
  | cons x l ih =>
    intro u hu
    rcases List.mem_append.1 hu with h | h
    · simp only [Pl.cells, List.mem_cons, List.not_mem_nil, or_false] at h
      rcases h with rfl | rfl | rfl | rfl | rfl <;> rfl
    · exact ih u h
structure PlCells (w : World) (b i : Nat) (x : Pl) : Prop where
  c0 : w.cell? ⟨b, i, none⟩ = some (.int .i64 x.v)
  c1 : w.cell? ⟨b, i + 1, none⟩ = some (.int .i64 x.m)
  c2 : w.cell? ⟨b, i + 2, none⟩ = some (.int .i64 x.p)
  c3 : w.cell? ⟨b, i + 3, none⟩ = some (.int .i64 x.s)
  c4 : w.cell? ⟨b, i + 4, none⟩ = some (.bool x.st)
theorem PlCells.below {w w' : World} {B b i : Nat} {x : Pl} (h : PlCells w b i x) (hb : Below B w w') (hl : b < B) : PlCells w' b i x :=
  ⟨(hb.cell (p := ⟨b, i, none⟩) hl).trans h.c0, (hb.cell (p := ⟨b, i + 1, none⟩) hl).trans h.c1, (hb.cell (p := ⟨b, i + 2, none⟩) hl).trans h.c2, (hb.cell (p := ⟨b, i + 3, none⟩) hl).trans h.c3, (hb.cell (p := ⟨b, i + 4, none⟩) hl).trans h.c4⟩
/-- Places as they lie. -/
def PlsAt (w : World) (B : Nat) (A : Option Addr) (l : List Pl) : Prop := ∀ k, k < l.length → ∃ b off, A = some ⟨b, off, none⟩ ∧ b < B ∧ PlCells w b (off + k * 5) (l.getD k pl0)
theorem PlsAt.below {w w' : World} {B : Nat} {A : Option Addr} {l : List Pl} (h : PlsAt w B A l) (hb : Below B w w') : PlsAt w' B A l := fun k hk => by
  obtain ⟨b, off, e, hl, hc⟩ := h k hk
  exact ⟨b, off, e, hl, hc.below hb hl⟩
theorem PlsAt.more {w : World} {B B' : Nat} {A : Option Addr} {l : List Pl} (h : PlsAt w B A l) (hB : B ≤ B') : PlsAt w B' A l := fun k hk => by
  obtain ⟨b, off, e, hl, hc⟩ := h k hk
  exact ⟨b, off, e, Nat.lt_of_lt_of_le hl hB, hc⟩
theorem PlsAt.take {w : World} {B : Nat} {A : Option Addr} {l : List Pl} (h : PlsAt w B A l) (k : Nat) : PlsAt w B A (l.take k) := fun i hi => by
  rw [List.length_take] at hi
  have e : (l.take k).getD i pl0 = l.getD i pl0 := by rw [List.getD_eq_getElem?_getD, List.getD_eq_getElem?_getD, List.getElem?_take, if_pos (by omega)]
  rw [e]
  exact h i (by omega)
theorem PlsAt.drop {w : World} {B b off : Nat} {l : List Pl} (h : PlsAt w B (some ⟨b, off, none⟩) l) (k : Nat) : PlsAt w B (some ⟨b, off + k * 5, none⟩) (l.drop k) := fun i hi => by
  rw [List.length_drop] at hi
  have e : (l.drop k).getD i pl0 = l.getD (k + i) pl0 := by rw [List.getD_eq_getElem?_getD, List.getD_eq_getElem?_getD, List.getElem?_drop]
  rw [e]
  obtain ⟨b', off', e', hl, hc⟩ := h (k + i) (by omega)
  injection e' with e'
  injection e' with e1 e2
  subst e1 e2
  exact ⟨b, off + k * 5, rfl, hl, by rw [show off + k * 5 + i * 5 = off + (k + i) * 5 by omega]; exact hc⟩
theorem PlsAt.src {w : World} {B : Nat} {A : Option Addr} {l : List Pl} (h : PlsAt w B A l) (hp : 0 < l.length) : ∃ b off, A = some ⟨b, off, none⟩ ∧ ∀ j u, (plL l)[j]? = some u → w.cell? ⟨b, off + j, none⟩ = some u := by
  obtain ⟨b, off, e, _, _⟩ := h 0 hp
  refine ⟨b, off, e, fun j u hu => ?_⟩
  have hj : j < l.length * 5 := by rw [← plL_len]; exact (List.getElem?_eq_some_iff.1 hu).1
  obtain ⟨b', off', e', _, hc⟩ := h (j / 5) (by omega)
  rw [e] at e'
  injection e' with e'
  injection e' with e1 e2
  subst e1 e2
  have hk : j / 5 * 5 + j % 5 = j := by omega
  rw [← hk] at hu
  rw [plL_at l (j / 5) (by omega) (j % 5) (by omega)] at hu
  rw [← hk, ← Nat.add_assoc]
  rcases (show j % 5 = 0 ∨ j % 5 = 1 ∨ j % 5 = 2 ∨ j % 5 = 3 ∨ j % 5 = 4 by omega) with e | e | e | e | e <;> rw [e] at hu ⊢
  · exact hc.c0.trans hu
  · exact hc.c1.trans hu
  · exact hc.c2.trans hu
  · exact hc.c3.trans hu
  · exact hc.c4.trans hu
theorem PlsAt.one {w : World} {g : Nat} {t : TypeId} {x : Pl} (h : Blk w g t x.cells.toArray) : PlsAt w w.heap.size (some ⟨g, 0, none⟩) [x] := fun k hk => by
  obtain rfl : k = 0 := by have : k < 1 := hk; omega
  exact ⟨g, 0, rfl, h.lt, h.cell 0, h.cell 1, h.cell 2, h.cell 3, h.cell 4⟩
/-- Rows of one's own, of elements of the type T. -/
def OwnL (T : TypeId) (w : World) (base : Nat) (A : Option Addr) (c : Nat) (l : List Pl) : Prop := w.ownsRow base T 5 (.slice A l.length c) l.length (plL l)
theorem OwnL.at_ {T : TypeId} {w : World} {base c : Nat} {A : Option Addr} {l : List Pl} (h : OwnL T w base A c l) : PlsAt w w.heap.size A l := fun k hk => by
  obtain ⟨b, rfl, hl, hc⟩ := own_at h (by omega)
  have hj : ∀ j, j < 5 → ∀ u, (l.getD k pl0).cells[j]? = some u → w.cell? ⟨b, 0 + k * 5 + j, none⟩ = some u := fun j hj u hu => by
    rw [Nat.zero_add]
    exact hc _ _ ((plL_at l k hk j hj).trans hu)
  exact ⟨b, 0, rfl, hl, hj 0 (by omega) _ rfl, hj 1 (by omega) _ rfl, hj 2 (by omega) _ rfl, hj 3 (by omega) _ rfl, hj 4 (by omega) _ rfl⟩
theorem own_blank (w : World) (base size : Nat) (t : TypeId) (hb : base ≤ w.heap.size) : (w.alloc (.cells #[] t)).ownsRow base t size (.slice (some ⟨w.heap.size, 0, none⟩) 0 0) 0 [] :=
  ⟨by simp, .inr ⟨w.heap.size, 0, #[], rfl, hb, Blk.new w t #[], Nat.le_refl _, Nat.zero_le _, by simp, by simp⟩⟩
/-- What F grows to by what is made. -/
def grow (F : Nat → Prop) (w w' : World) (k : Nat) : Prop := F k ∨ (w.heap.size ≤ k ∧ k < w'.heap.size)
def noF (_ : Nat) : Prop := False
theorem grow_grow {F : Nat → Prop} {w0 w1 w2 : World} (h1 : w0.heap.size ≤ w1.heap.size) (h2 : w1.heap.size ≤ w2.heap.size) {k : Nat} (h : grow (grow F w0 w1) w1 w2 k) : grow F w0 w2 k := by
  rcases h with (h | h) | h
  · exact .inl h
  · exact .inr ⟨h.1, by omega⟩
  · exact .inr ⟨by omega, h.2⟩
theorem below_touch {w V : World} (hb : Below w.heap.size w V) (F : Nat → Prop) : Touch F w V := (Below.touch hb).mono (fun k hk hp => absurd hp (by omega))
end Go.Proofs.Ytnhnllkcnpbgoaa
