/- Letters as they lie in memory, and all bridges side by side while letters' rows grow. No condition. -/
import Derived.Test.YtadejdhdkkfliaaTrun
namespace Go.Proofs.Ytadejdhdkkfliaa
open Go.RowKit
set_option maxRecDepth 100000

def Lm.cells (s : Lm) : List Value := [.int .i64 s.due, .int .i64 s.to, .int .i64 s.port, .int .i64 s.b.root, .int .i64 s.b.cost, .int .i64 s.b.bridge, .int .i64 s.b.port, .int .i64 s.b.age, .int .i64 s.b.role, .bool s.b.change]
instance : Inhabited Lm := ⟨lm0⟩
def lmL : List Lm → List Value
  | [] => []
  | a :: l => a.cells ++ lmL l
theorem lmL_append (l m : List Lm) : lmL (l ++ m) = lmL l ++ lmL m := by
  induction l with
  | nil => rfl
  | cons a l ih => simp [lmL, ih]
theorem lmL_length (l : List Lm) : (lmL l).length = l.length * 10 := by
  induction l with
  | nil => rfl
  | cons a l ih => simp [lmL, ih, Lm.cells]; omega
theorem lmL_at (l : List Lm) (k : Nat) (h : k < l.length) (j : Nat) (hj : j < 10) : (lmL l)[k * 10 + j]? = (l.getD k lm0).cells[j]? := by
  induction l generalizing k with
  | nil => simp at h
  | cons a l ih =>
    cases k with
    | zero =>
      simp only [lmL]
      rw [List.getElem?_append_left (by simp [Lm.cells]; omega)]
      simp
    | succ k =>
      simp only [lmL]
      rw [List.getElem?_append_right (by simp [Lm.cells]; omega)]
      have e : (k + 1) * 10 + j - a.cells.length = k * 10 + j := by simp [Lm.cells]; omega
      rw [e, ih k (by simpa using h)]
      simp
theorem lmL_one (l : List Lm) : ∀ u ∈ lmL l, u.oneCell' = true := by
  induction l with
  | nil => simp [lmL]
  | cons a l ih =>
    intro u hu
    simp only [lmL, List.mem_append, Lm.cells] at hu
    rcases hu with hu | hu
    · simp only [List.mem_cons, List.not_mem_nil, or_false] at hu
      rcases hu with rfl | rfl | rfl | rfl | rfl | rfl | rfl | rfl | rfl | rfl <;> rfl
    · exact ih u hu
/-- The ten cells of one. -/
structure LmCells (w : World) (b i : Nat) (s : Lm) : Prop where
  c0 : w.cell? ⟨b, i, none⟩ = some (.int .i64 s.due)
  c1 : w.cell? ⟨b, i + 1, none⟩ = some (.int .i64 s.to)
  c2 : w.cell? ⟨b, i + 2, none⟩ = some (.int .i64 s.port)
  c3 : w.cell? ⟨b, i + 3, none⟩ = some (.int .i64 s.b.root)
  c4 : w.cell? ⟨b, i + 4, none⟩ = some (.int .i64 s.b.cost)
  c5 : w.cell? ⟨b, i + 5, none⟩ = some (.int .i64 s.b.bridge)
  c6 : w.cell? ⟨b, i + 6, none⟩ = some (.int .i64 s.b.port)
  c7 : w.cell? ⟨b, i + 7, none⟩ = some (.int .i64 s.b.age)
  c8 : w.cell? ⟨b, i + 8, none⟩ = some (.int .i64 s.b.role)
  c9 : w.cell? ⟨b, i + 9, none⟩ = some (.bool s.b.change)
def OwnT (w : World) (base : Nat) (A : Option Addr) (c : Nat) (l : List Lm) : Prop := w.ownsRow base 63 10 (.slice A l.length c) l.length (lmL l)
theorem OwnT.at_ {w : World} {base c : Nat} {A : Option Addr} {l : List Lm} (h : OwnT w base A c l) {k : Nat} (hk : k < l.length) : ∃ b, A = some ⟨b, 0, none⟩ ∧ base ≤ b ∧ b < w.heap.size ∧ LmCells w b (k * 10) (l.getD k lm0) := by
  obtain ⟨b, rfl, hl, hc⟩ := own_at h (by omega)
  have hj : ∀ j, j < 10 → ∀ u, (l.getD k lm0).cells[j]? = some u → w.cell? ⟨b, k * 10 + j, none⟩ = some u := fun j hj u hu => hc _ _ ((lmL_at l k hk j hj).trans hu)
  exact ⟨b, rfl, (World.ownsRow.lt h b rfl).1, hl, hj 0 (by omega) _ rfl, hj 1 (by omega) _ rfl, hj 2 (by omega) _ rfl, hj 3 (by omega) _ rfl, hj 4 (by omega) _ rfl, hj 5 (by omega) _ rfl, hj 6 (by omega) _ rfl, hj 7 (by omega) _ rfl, hj 8 (by omega) _ rfl, hj 9 (by omega) _ rfl⟩
theorem let_info : (Try.prog.info? 63).map (fun i => (i.zero, i.size, i.bytes)) = some (some (.agg #[.int .i64 0, .int .i64 0, .int .i64 0, .int .i64 0, .int .i64 0, .int .i64 0, .int .i64 0, .int .i64 0, .int .i64 0, .bool false]), 10, 80) := by kernel_rfl
/-- One more. -/
theorem append_lm (w : World) (base : Nat) (A0 : Option Addr) (c0 n0 : Nat) (l : List Lm) (hl0 : l.length = n0) (hown : OwnT w base A0 c0 l) (g : Nat) (s : Lm) (hg : Blk w g 63 s.cells.toArray) (hn : l.length ≤ 1048576) (hbase : base ≤ w.heap.size) :
    ∃ a' c' w', (Builtin.append_ #[61, 61] 61 #[.slice A0 n0 c0, .slice (some ⟨g, 0, none⟩) 1 1]).run Try.prog w = .ok (.slice a' (n0 + 1) c') w' ∧ OwnT w' base a' c' (l ++ [s]) ∧ w.grownBy w' (Value.slice A0 n0 c0).ownBlock := by
  subst hl0
  obtain ⟨i0, hi0, hz0, hz1, hz2⟩ := info_parts let_info
  obtain ⟨a', c', w', hr, ho, hgr, _, _⟩ := append_src w base 61 61 63 i0 _ 10 80 Try.underlying61 hi0 hz0 hz1 hz2 rfl (by decide) _ l.length (lmL l) hown (some ⟨g, 0, none⟩) 1 1 (lmL [s]) (by rw [lmL_length]; rfl) (fun h => by cases h)
    (fun _ => ⟨g, 0, rfl, fun j u hu => by
      rw [Nat.zero_add, hg.cell]
      have e : lmL [s] = s.cells := by simp [lmL]
      rw [e] at hu
      rw [← hu]
      simp⟩)
    (lmL_one [s]) (by unfold maxLen; omega) (by omega) hbase
  refine ⟨a', c', w', hr, ?_, hgr⟩
  unfold OwnT
  rw [lmL_append, List.length_append]
  exact ho
/-- Two rows of unlike types are apart. -/
theorem rows_apart {w : World} {base base' size size' n n' c c' k k' : Nat} {e e' : TypeId} {b b' : Addr} {xs xs' : List Value} (h : w.ownsRow base e size (.slice (some b) n c) k xs) (h' : w.ownsRow base' e' size' (.slice (some b') n' c') k' xs') (ne : e ≠ e') : b.block ≠ b'.block := by
  rcases h.2 with ⟨e0, _⟩ | ⟨g1, cap1, cur1, e0, _, hg1, _⟩
  · injection e0 with e1
    cases e1
  · rcases h'.2 with ⟨e0', _⟩ | ⟨g2, cap2, cur2, e0', _, hg2, _⟩
    · injection e0' with e1
      cases e1
    · injection e0 with e1
      injection e1 with e1
      injection e0' with e2
      injection e2 with e2
      subst e1 e2
      intro eb
      have eb : g1 = g2 := eb
      subst eb
      rw [hg1] at hg2
      injection hg2 with hb
      injection hb with _ hb
      exact ne hb
/-- A row is no bridge's block. -/
theorem row_tree {w : World} {base size k n c : Nat} {e : TypeId} {b : Addr} {xs : List Value} (h : w.ownsRow base e size (.slice (some b) n c) k xs) (n1 : e ≠ 83) (n2 : e ≠ 88) {g gp m : Nat} {id ch : Int} {f : Nat → Pt} {fw : Nat → Bool} (ht : TreeW w g gp id m f fw ch) : b.block ≠ g ∧ b.block ≠ gp := by
  rcases h.2 with ⟨e0, _⟩ | ⟨g', cap', cur, e0, _, hg', _⟩
  · injection e0 with e1
    cases e1
  · injection e0 with e1
    injection e1 with e1
    subst e1
    refine ⟨fun e => ?_, fun e => ?_⟩
    · have e : g' = g := e
      subst e
      have ht := TreeAt.top ht
      unfold Blk at ht
      rw [ht] at hg'
      injection hg' with hb
      injection hb with _ hb
      exact n1 hb.symm
    · have e : g' = gp := e
      subst e
      obtain ⟨cs, hb, _⟩ := TreeAt.ports ht
      unfold Blk at hb
      rw [hb] at hg'
      injection hg' with hb
      injection hb with _ hb
      exact n2 hb.symm
theorem own_some {A : Option Addr} {n c k : Nat} (h : (Value.slice A n c).ownBlock = some k) : ∃ b : Addr, A = some b ∧ b.block = k := by
  rcases A with _ | b
  · cases h
  · exact ⟨b, rfl, by injection h⟩
/-- A row stays while another one of another type grows. -/
theorem row_grown {w w' : World} {base base' size size' n n' c c' k k' : Nat} {e e' : TypeId} {A A' : Option Addr} {xs xs' : List Value} (h : w.ownsRow base e size (.slice A n c) k xs) (h' : w.ownsRow base' e' size' (.slice A' n' c') k' xs') (ne : e ≠ e') (hg : w.grownBy w' (Value.slice A' n' c').ownBlock) : w'.ownsRow base e size (.slice A n c) k xs := by
  refine own_heap h fun q hq => hg.block q (World.ownsRow.lt h q hq).2 fun hq' => ?_
  obtain ⟨b, rfl, hb⟩ := own_some hq
  obtain ⟨b', rfl, hb'⟩ := own_some hq'.symm
  exact rows_apart h h' ne (by omega)
/-- A row stays while a bridge turns. -/
theorem row_turn {w w' : World} {base size n c k : Nat} {e : TypeId} {A : Option Addr} {xs : List Value} (h : w.ownsRow base e size (.slice A n c) k xs) (n1 : e ≠ 83) (n2 : e ≠ 88) {g gp m : Nat} {id ch : Int} {f : Nat → Pt} {fw : Nat → Bool} (ht : TreeW w g gp id m f fw ch) (t : Touch (fun k => k = g ∨ k = gp) w w') : w'.ownsRow base e size (.slice A n c) k xs := by
  refine own_heap h fun q hq => ?_
  obtain ⟨b, rfl, hb⟩ := own_some hq
  have ha := row_tree h n1 n2 ht
  exact t.block q (World.ownsRow.lt h q hq).2 fun e => by omega
theorem row_below {w w' : World} {base size n c k : Nat} {e : TypeId} {A : Option Addr} {xs : List Value} (h : w.ownsRow base e size (.slice A n c) k xs) (hb : Below w.heap.size w w') : w'.ownsRow base e size (.slice A n c) k xs :=
  own_heap h fun q hq => hb.block q (World.ownsRow.lt h q hq).2
theorem AllW.row {w w' : World} {n : Nat} {ids : Nat → Int} {g gp : Nat → Nat} {B : Nat → Nat → Pt} {fw : Nat → Nat → Bool} {ch : Nat → Int} (h : AllW w n ids g gp B fw ch) {base size m c k : Nat} {e : TypeId} {A : Option Addr} {xs : List Value} (ho : w.ownsRow base e size (.slice A m c) k xs) (n1 : e ≠ 83) (n2 : e ≠ 88)
    (hg : w.grownBy w' (Value.slice A m c).ownBlock) : AllW w' n ids g gp B fw ch := by
  have key : ∀ x, x < n → w'.heap[g x]? = w.heap[g x]? ∧ w'.heap[gp x]? = w.heap[gp x]? := fun x hx => by
    have hl := h.lt hx
    refine ⟨hg.block _ hl.1 fun hq => ?_, hg.block _ hl.2 fun hq => ?_⟩
    · obtain ⟨b, rfl, hb⟩ := own_some hq.symm
      exact (row_tree ho n1 n2 (h.at_ x hx)).1 hb
    · obtain ⟨b, rfl, hb⟩ := own_some hq.symm
      exact (row_tree ho n1 n2 (h.at_ x hx)).2 hb
  exact ⟨fun x hx => TreeAt.block (h.at_ x hx) (key x hx).1 (key x hx).2, h.gg, h.pp, h.gp_⟩
/-- All bridges, and the row of pointers to them. -/
structure MemS (w0 w : World) (A0 : Option Addr) (c0 n : Nat) (f : Nat → Int) (g gp : Nat → Nat) (B : Nat → Nat → Pt) (fw : Nat → Nat → Bool) (ch : Nat → Int) (now : Int) : Prop where
  bel : Below w0.heap.size w0 w
  all : AllW w n f g gp B fw ch
  ptr : OwnP w w0.heap.size A0 c0 ((List.range n).map g)
  new : ∀ x, x < n → w0.heap.size ≤ g x ∧ w0.heap.size ≤ gp x
  chs : ∀ x, x < n → ch x = -1 ∨ 0 ≤ ch x ∧ ch x ≤ now
section
variable {w0 w w' : World} {A0 : Option Addr} {c0 n : Nat} {f : Nat → Int} {g gp : Nat → Nat} {B : Nat → Nat → Pt} {fw : Nat → Nat → Bool} {ch : Nat → Int} {now : Int}
theorem MemS.below (h : MemS w0 w A0 c0 n f g gp B fw ch now) (hb : Below w.heap.size w w') : MemS w0 w' A0 c0 n f g gp B fw ch now :=
  ⟨h.bel.trans (hb.mono h.bel.size), h.all.below hb, row_below h.ptr hb, h.new, h.chs⟩
theorem MemS.later (h : MemS w0 w A0 c0 n f g gp B fw ch now) {now' : Int} (ht : now ≤ now') : MemS w0 w A0 c0 n f g gp B fw ch now' :=
  ⟨h.bel, h.all, h.ptr, h.new, fun x hx => by have := h.chs x hx; omega⟩
/-- A row that isn't pointers grows. -/
theorem MemS.row (h : MemS w0 w A0 c0 n f g gp B fw ch now) {base size m c k : Nat} {e : TypeId} {A : Option Addr} {xs : List Value} (ho : w.ownsRow base e size (.slice A m c) k xs) (hb : w0.heap.size ≤ base) (n1 : e ≠ 83) (n2 : e ≠ 88) (n3 : 25 ≠ e)
    (hg : w.grownBy w' (Value.slice A m c).ownBlock) : MemS w0 w' A0 c0 n f g gp B fw ch now :=
  ⟨h.bel.trans (bel_own ho hg hb h.bel.size), h.all.row ho n1 n2 hg, row_grown h.ptr ho n3 hg, h.new, h.chs⟩
/-- A bridge turns. -/
theorem MemS.turn (h : MemS w0 w A0 c0 n f g gp B fw ch now) {x : Nat} (hx : x < n) (ht : Touch (fun k => k = g x ∨ k = gp x) w w') {f' : Nat → Pt} {fx : Nat → Bool} {cx : Int} (hn : TreeW w' (g x) (gp x) (f x) 6 f' fx cx) (hc : cx = -1 ∨ 0 ≤ cx ∧ cx ≤ now) :
    MemS w0 w' A0 c0 n f g gp (updB B x f') (updF fw x fx) (updF ch x cx) now :=
  ⟨below_touch h.bel ht (h.new x hx), h.all.step hx ht hn, row_turn h.ptr (by decide) (by decide) (h.all.at_ x hx) ht, h.new, fun y hy => by
    by_cases e : y = x
    · subst e
      rw [updF_at]
      exact hc
    · rw [updF_ne ch cx e]
      exact h.chs y hy⟩
end
end Go.Proofs.Ytadejdhdkkfliaa
