/- Vectors and what was heard, as plain data and as they lie in memory. No condition. -/
import Derived.Test.YtadejdhdkkfliaaOwn
import Derived.Test.YtadejdhdkkfliaaBel
namespace Go.Proofs.Ytadejdhdkkfliaa
open Go.RowKit
set_option maxRecDepth 100000

structure Vec where
  root : Int
  cost : Int
  bridge : Int
  port : Int
def Vec.arr (v : Vec) : Array Value := #[.int .i64 v.root, .int .i64 v.cost, .int .i64 v.bridge, .int .i64 v.port]
def Vec.v (v : Vec) : Value := .agg v.arr
theorem Vec.ext4 {a b : Vec} (h1 : a.root = b.root) (h2 : a.cost = b.cost) (h3 : a.bridge = b.bridge) (h4 : a.port = b.port) : a = b := by
  cases a; cases b; simp_all
theorem Vec.ne4 {a b : Vec} (h : a ≠ b) : a.root ≠ b.root ∨ a.cost ≠ b.cost ∨ a.bridge ≠ b.bridge ∨ a.port ≠ b.port := by
  by_cases h1 : a.root = b.root
  · by_cases h2 : a.cost = b.cost
    · by_cases h3 : a.bridge = b.bridge
      · exact .inr (.inr (.inr fun h4 => h (Vec.ext4 h1 h2 h3 h4)))
      · exact .inr (.inr (.inl h3))
    · exact .inr (.inl h2)
  · exact .inl h1
instance (a b : Vec) : Decidable (a = b) := decidable_of_iff (a.root = b.root ∧ a.cost = b.cost ∧ a.bridge = b.bridge ∧ a.port = b.port) ⟨fun h => Vec.ext4 h.1 h.2.1 h.2.2.1 h.2.2.2, fun h => by subst h; exact ⟨rfl, rfl, rfl, rfl⟩⟩
/-- Numbers of an int's range. -/
def In64 (n : Int) : Prop := -9223372036854775808 ≤ n ∧ n ≤ 9223372036854775807
def Vec.ok (v : Vec) : Prop := In64 v.root ∧ In64 v.cost ∧ In64 v.bridge ∧ In64 v.port

structure Hd where
  root : Int
  cost : Int
  bridge : Int
  port : Int
  age : Int
  way : Int
  none : Bool
instance : Inhabited Hd := ⟨⟨0, 0, 0, 0, 0, 0, false⟩⟩
def hd0 : Hd := ⟨0, 0, 0, 0, 0, 0, false⟩
def Hd.vec (h : Hd) : Vec := ⟨h.root, h.cost, h.bridge, h.port⟩
def Hd.cells (h : Hd) : List Value := [.int .i64 h.root, .int .i64 h.cost, .int .i64 h.bridge, .int .i64 h.port, .int .i64 h.age, .int .i64 h.way, .bool h.none]
def Hd.arr (h : Hd) : Array Value := #[.int .i64 h.root, .int .i64 h.cost, .int .i64 h.bridge, .int .i64 h.port, .int .i64 h.age, .int .i64 h.way, .bool h.none]
def Hd.v (h : Hd) : Value := .agg h.arr
def Hd.ok (h : Hd) : Prop := h.vec.ok ∧ In64 h.age ∧ In64 h.way
def hdL : List Hd → List Value
  | [] => []
  | a :: l => a.cells ++ hdL l
theorem hdL_append (l m : List Hd) : hdL (l ++ m) = hdL l ++ hdL m := by
  induction l with
  | nil => rfl
  | cons a l ih => simp [hdL, ih]
theorem hdL_length (l : List Hd) : (hdL l).length = l.length * 7 := by
  induction l with
  | nil => rfl
  | cons a l ih => simp [hdL, ih, Hd.cells]; omega
theorem hdL_at (l : List Hd) (k : Nat) (h : k < l.length) (j : Nat) (hj : j < 7) : (hdL l)[k * 7 + j]? = (l.getD k hd0).cells[j]? := by
  induction l generalizing k with
  | nil => simp at h
  | cons a l ih =>
    cases k with
    | zero =>
      simp only [hdL]
      rw [List.getElem?_append_left (by simp [Hd.cells]; omega)]
      simp
    | succ k =>
      simp only [hdL]
      rw [List.getElem?_append_right (by simp [Hd.cells]; omega)]
      have e : (k + 1) * 7 + j - a.cells.length = k * 7 + j := by simp [Hd.cells]; omega
      rw [e, ih k (by simpa using h)]
      simp
theorem hdL_one (l : List Hd) : ∀ u ∈ hdL l, u.oneCell' = true := by
  induction l with
  | nil => simp [hdL]
  | cons a l ih =>
    intro u hu
    simp only [hdL, List.mem_append, Hd.cells] at hu
    rcases hu with hu | hu
    · simp only [List.mem_cons, List.not_mem_nil, or_false] at hu
      rcases hu with rfl | rfl | rfl | rfl | rfl | rfl | rfl <;> rfl
    · exact ih u hu
/-- The seven cells of one that was heard, from cell i on in block b. -/
structure HdCells (w : World) (b i : Nat) (h : Hd) : Prop where
  c0 : w.cell? ⟨b, i, none⟩ = some (.int .i64 h.root)
  c1 : w.cell? ⟨b, i + 1, none⟩ = some (.int .i64 h.cost)
  c2 : w.cell? ⟨b, i + 2, none⟩ = some (.int .i64 h.bridge)
  c3 : w.cell? ⟨b, i + 3, none⟩ = some (.int .i64 h.port)
  c4 : w.cell? ⟨b, i + 4, none⟩ = some (.int .i64 h.age)
  c5 : w.cell? ⟨b, i + 5, none⟩ = some (.int .i64 h.way)
  c6 : w.cell? ⟨b, i + 6, none⟩ = some (.bool h.none)
/-- They lie at A, in a block below B. -/
def HdAt (w : World) (B : Nat) (A : Option Addr) (l : List Hd) : Prop := ∀ k, k < l.length → ∃ b off, A = some ⟨b, off, none⟩ ∧ b < B ∧ HdCells w b (off + k * 7) (l.getD k hd0)
theorem HdCells.below {w w' : World} {B b i : Nat} {h : Hd} (hc : HdCells w b i h) (hb : Below B w w') (hl : b < B) : HdCells w' b i h :=
  ⟨(hb.cell (p := ⟨b, i, none⟩) hl).trans hc.c0, (hb.cell (p := ⟨b, i + 1, none⟩) hl).trans hc.c1, (hb.cell (p := ⟨b, i + 2, none⟩) hl).trans hc.c2, (hb.cell (p := ⟨b, i + 3, none⟩) hl).trans hc.c3,
    (hb.cell (p := ⟨b, i + 4, none⟩) hl).trans hc.c4, (hb.cell (p := ⟨b, i + 5, none⟩) hl).trans hc.c5, (hb.cell (p := ⟨b, i + 6, none⟩) hl).trans hc.c6⟩
theorem HdAt.below {w w' : World} {B : Nat} {A : Option Addr} {l : List Hd} (h : HdAt w B A l) (hb : Below B w w') : HdAt w' B A l := fun k hk => by
  obtain ⟨b, off, e, hl, hc⟩ := h k hk
  exact ⟨b, off, e, hl, hc.below hb hl⟩
theorem HdAt.more {w : World} {B B' : Nat} {A : Option Addr} {l : List Hd} (h : HdAt w B A l) (hB : B ≤ B') : HdAt w B' A l := fun k hk => by
  obtain ⟨b, off, e, hl, hc⟩ := h k hk
  exact ⟨b, off, e, by omega, hc⟩
theorem HdAt.flat {w : World} {B : Nat} {A : Option Addr} {l : List Hd} (h : HdAt w B A l) (h0 : 0 < l.length) : ∃ b off, A = some ⟨b, off, none⟩ ∧ ∀ j u, (hdL l)[j]? = some u → w.cell? ⟨b, off + j, none⟩ = some u := by
  obtain ⟨b, off, rfl, _, _⟩ := h 0 h0
  refine ⟨b, off, rfl, fun j u hu => ?_⟩
  have hj : j < l.length * 7 := by have := (List.getElem?_eq_some_iff.1 hu).1; rwa [hdL_length] at this
  obtain ⟨b', off', e, _, hc⟩ := h (j / 7) (by omega)
  injection e with e
  injection e with e1 e2
  subst e1 e2
  have hjj : j / 7 * 7 + j % 7 = j := by omega
  have hu' := hdL_at l (j / 7) (by omega) (j % 7) (by omega)
  rw [hjj, hu] at hu'
  obtain ⟨q0, q1, q2, q3, q4, q5, q6⟩ := hc
  have hs : off + j = off + j / 7 * 7 + j % 7 := by omega
  rw [hs]
  rcases (show j % 7 = 0 ∨ j % 7 = 1 ∨ j % 7 = 2 ∨ j % 7 = 3 ∨ j % 7 = 4 ∨ j % 7 = 5 ∨ j % 7 = 6 from by omega) with h | h | h | h | h | h | h <;> rw [h] at hu' ⊢ <;> rw [hu']
  · exact q0
  · exact q1
  · exact q2
  · exact q3
  · exact q4
  · exact q5
  · exact q6
theorem HdAt.of_flat {w : World} {B b off : Nat} {l : List Hd} (hb : 0 < l.length → b < B) (h : ∀ j u, (hdL l)[j]? = some u → w.cell? ⟨b, off + j, none⟩ = some u) : HdAt w B (some ⟨b, off, none⟩) l := fun k hk => by
  have hcell : ∀ j, j < 7 → ∀ u, (l.getD k hd0).cells[j]? = some u → w.cell? ⟨b, off + k * 7 + j, none⟩ = some u := fun j hj u hu => by
    rw [Nat.add_assoc]
    exact h _ _ ((hdL_at l k hk j hj).trans hu)
  exact ⟨b, off, rfl, hb (by omega), hcell 0 (by omega) _ rfl, hcell 1 (by omega) _ rfl, hcell 2 (by omega) _ rfl, hcell 3 (by omega) _ rfl, hcell 4 (by omega) _ rfl, hcell 5 (by omega) _ rfl, hcell 6 (by omega) _ rfl⟩
/-- Rows of the program's own. -/
def OwnH (t : TypeId) (w : World) (base : Nat) (A : Option Addr) (c : Nat) (l : List Hd) : Prop := w.ownsRow base t 7 (.slice A l.length c) l.length (hdL l)
theorem OwnH.at_ {t : TypeId} {w : World} {base c : Nat} {A : Option Addr} {l : List Hd} (h : OwnH t w base A c l) : HdAt w w.heap.size A l := by
  by_cases h0 : 0 < l.length
  · obtain ⟨b, rfl, hl, hc⟩ := own_at h h0
    exact HdAt.of_flat (fun _ => hl) fun j u hu => by rw [Nat.zero_add]; exact hc j u hu
  · exact fun k hk => absurd hk (by omega)
theorem vec_info : (Try.prog.info? 32).map (fun i => (i.zero, i.size, i.bytes)) = some (some (.agg #[.int .i64 0, .int .i64 0, .int .i64 0, .int .i64 0]), 4, 32) := by kernel_rfl
theorem hd_info : (Try.prog.info? 86).map (fun i => (i.zero, i.size, i.bytes)) = some (some (.agg #[.int .i64 0, .int .i64 0, .int .i64 0, .int .i64 0, .int .i64 0, .int .i64 0, .bool false]), 7, 56) := by kernel_rfl
theorem rhd_info : (Try.prog.info? 76).map (fun i => (i.zero, i.size, i.bytes)) = some (some (.agg #[.int .i64 0, .int .i64 0, .int .i64 0, .int .i64 0, .int .i64 0, .int .i64 0, .bool false]), 7, 56) := by kernel_rfl
end Go.Proofs.Ytadejdhdkkfliaa
