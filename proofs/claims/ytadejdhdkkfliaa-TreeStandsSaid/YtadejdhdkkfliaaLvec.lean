/- Rows of vectors, grown and stored into; one way round a link as better answers it. No condition but bounds on lengths. -/
import Derived.Test.YtadejdhdkkfliaaLbet
import Derived.Test.YtadejdhdkkfliaaTsys
namespace Go.Proofs.Ytadejdhdkkfliaa
open Go.RowKit
set_option maxRecDepth 100000

def vL : List Vec → List Value
  | [] => []
  | a :: l => [.int .i64 a.root, .int .i64 a.cost, .int .i64 a.bridge, .int .i64 a.port] ++ vL l
theorem vL_append (l m : List Vec) : vL (l ++ m) = vL l ++ vL m := by
  induction l with
  | nil => rfl
  | cons a l ih => simp [vL, ih]
theorem vL_length (l : List Vec) : (vL l).length = l.length * 4 := by
  induction l with
  | nil => rfl
  | cons a l ih => simp [vL, ih]; omega
def vz0 : Vec := ⟨0, 0, 0, 0⟩
theorem vL_at (l : List Vec) (k : Nat) (h : k < l.length) (j : Nat) (hj : j < 4) : (vL l)[k * 4 + j]? = (l.getD k vz0).arr[j]? := by
  induction l generalizing k with
  | nil => simp at h
  | cons a l ih =>
    cases k with
    | zero =>
      simp only [vL]
      rw [List.getElem?_append_left (by simp; omega)]
      rcases (show j = 0 ∨ j = 1 ∨ j = 2 ∨ j = 3 from by omega) with rfl | rfl | rfl | rfl <;> rfl
    | succ k =>
      simp only [vL]
      rw [List.getElem?_append_right (by simp; omega)]
      have e : (k + 1) * 4 + j - [Value.int .i64 a.root, .int .i64 a.cost, .int .i64 a.bridge, .int .i64 a.port].length = k * 4 + j := by simp; omega
      rw [e, ih k (by simpa using h)]
      simp
theorem vL_one (l : List Vec) : ∀ u ∈ vL l, u.oneCell' = true := by
  induction l with
  | nil => simp [vL]
  | cons a l ih =>
    intro u hu
    simp only [vL, List.mem_append] at hu
    rcases hu with hu | hu
    · simp only [List.mem_cons, List.not_mem_nil, or_false] at hu
      rcases hu with rfl | rfl | rfl | rfl <;> rfl
    · exact ih u hu
def OwnL (w : World) (base : Nat) (A : Option Addr) (c : Nat) (l : List Vec) : Prop := w.ownsRow base 32 4 (.slice A l.length c) l.length (vL l)
theorem append_vc (w : World) (base : Nat) (A0 : Option Addr) (c0 n0 : Nat) (l : List Vec) (hl0 : l.length = n0) (hown : OwnL w base A0 c0 l) (g : Nat) (s : Vec) (hg : Blk w g 32 #[.int .i64 s.root, .int .i64 s.cost, .int .i64 s.bridge, .int .i64 s.port]) (hn : l.length ≤ 1048576) (hbase : base ≤ w.heap.size) :
    ∃ a' c' w', (Builtin.append_ #[102, 102] 102 #[.slice A0 n0 c0, .slice (some ⟨g, 0, none⟩) 1 1]).run Try.prog w = .ok (.slice a' (n0 + 1) c') w' ∧ OwnL w' base a' c' (l ++ [s]) ∧ w.grownBy w' (Value.slice A0 n0 c0).ownBlock := by
  subst hl0
  obtain ⟨i0, hi0, hz0, hz1, hz2⟩ := info_parts vec_info
  obtain ⟨a', c', w', hr, ho, hgr, _, _⟩ := append_src w base 102 102 32 i0 _ 4 32 Try.underlying102 hi0 hz0 hz1 hz2 rfl (by decide) _ l.length (vL l) hown (some ⟨g, 0, none⟩) 1 1 (vL [s]) (by rw [vL_length]; rfl) (fun h => by cases h)
    (fun _ => ⟨g, 0, rfl, fun j u hu => by
      rw [Nat.zero_add, hg.cell]
      have e : vL [s] = [.int .i64 s.root, .int .i64 s.cost, .int .i64 s.bridge, .int .i64 s.port] := by simp [vL]
      rw [e] at hu
      rw [← hu]
      simp⟩)
    (vL_one [s]) (by unfold maxLen; omega) (by omega) hbase
  refine ⟨a', c', w', hr, ?_, hgr⟩
  unfold OwnL
  rw [vL_append, List.length_append]
  exact ho
/-- What each holds. -/
def VsAt (w : World) (g n : Nat) (F : Nat → Vec) : Prop := ∃ cs, Blk w g 32 cs ∧ n * 4 ≤ cs.size ∧ ∀ i, i < n → ∀ k, k < 4 → cs[i * 4 + k]? = (F i).arr[k]?
theorem OwnL.vs {w : World} {base c : Nat} {A : Option Addr} {l : List Vec} (h : OwnL w base A c l) (hl : 0 < l.length) : ∃ g, A = some ⟨g, 0, none⟩ ∧ base ≤ g ∧ VsAt w g l.length (fun i => l.getD i vz0) := by
  rcases h.2 with ⟨e0, _⟩ | ⟨g', cap', cur, e0, hb', hg', hle, _, hs', ht⟩
  · injection e0 with _ e2
    omega
  · injection e0 with e1 _ e3
    subst e1 e3
    refine ⟨g', rfl, hb', cur, hg', by omega, fun i hi k hk => ?_⟩
    have hlt : i * 4 + k < l.length * 4 := by omega
    have e1 : cur[i * 4 + k]? = (cur.toList.take (l.length * 4))[i * 4 + k]? := by
      rw [List.getElem?_take_of_lt hlt]
      simp
    rw [e1, ht, vL_at l i hi k hk]
section
variable {w w' : World} {g n : Nat} {F : Nat → Vec}
structure VCells (w : World) (g o : Nat) (v : Vec) : Prop where
  c0 : w.cell? ⟨g, o, none⟩ = some (.int .i64 v.root)
  c1 : w.cell? ⟨g, o + 1, none⟩ = some (.int .i64 v.cost)
  c2 : w.cell? ⟨g, o + 2, none⟩ = some (.int .i64 v.bridge)
  c3 : w.cell? ⟨g, o + 3, none⟩ = some (.int .i64 v.port)
theorem VsAt.cells (h : VsAt w g n F) {i : Nat} (hi : i < n) : VCells w g (i * 4) (F i) := by
  obtain ⟨cs, hb, hs, hc⟩ := h
  have hj : ∀ j, j < 4 → w.cell? ⟨g, i * 4 + j, none⟩ = (F i).arr[j]? := fun j hj => (hb.cell _).trans (hc i hi j hj)
  exact ⟨hj 0 (by omega), hj 1 (by omega), hj 2 (by omega), hj 3 (by omega)⟩
theorem VsAt.frozen (h : VsAt w g n F) (j : Nat) : w.frozen? ⟨g, j, none⟩ = false := by
  obtain ⟨cs, hb, _⟩ := h
  exact hb.frozen j
theorem VsAt.lt (h : VsAt w g n F) : g < w.heap.size := by
  obtain ⟨cs, hb, _⟩ := h
  exact hb.lt
theorem VsAt.below {B : Nat} (h : VsAt w g n F) (hb : Below B w w') (hl : g < B) : VsAt w' g n F := by
  obtain ⟨cs, hk, hs, hc⟩ := h
  exact ⟨cs, hk.below hb hl, hs, hc⟩
def put4at (w : World) (g o : Nat) (v : Vec) : World := (((w.setCell ⟨g, o, none⟩ (.int .i64 v.root)).setCell ⟨g, o + 1, none⟩ (.int .i64 v.cost)).setCell ⟨g, o + 2, none⟩ (.int .i64 v.bridge)).setCell ⟨g, o + 3, none⟩ (.int .i64 v.port)
theorem VsAt.put (h : VsAt w g n F) {i : Nat} (hi : i < n) (v : Vec) {F' : Nat → Vec} (h1 : F' i = v) (h2 : ∀ j, j < n → j ≠ i → F' j = F j) : VsAt (put4at w g (i * 4) v) g n F' := by
  obtain ⟨cs, hb, hs, hc⟩ := h
  refine ⟨_, ((hb.set_ (i * 4) _).set_ (i * 4 + 1) _).set_ (i * 4 + 2) _ |>.set_ (i * 4 + 3) _, by simp [hs], fun q hq k hk => ?_⟩
  by_cases e : q = i
  · subst e
    rw [h1]
    rcases (show k = 0 ∨ k = 1 ∨ k = 2 ∨ k = 3 from by omega) with rfl | rfl | rfl | rfl <;> simp [Array.getElem?_setIfInBounds, Vec.arr] <;> omega
  · rw [Array.getElem?_setIfInBounds_ne (by omega), Array.getElem?_setIfInBounds_ne (by omega), Array.getElem?_setIfInBounds_ne (by omega), Array.getElem?_setIfInBounds_ne (by omega), h2 q hq e]
    exact hc q hq k hk
theorem put4at_below {w0 : World} {o : Nat} (hb : Below w0.heap.size w0 w) (hg : w0.heap.size ≤ g) (v : Vec) : Below w0.heap.size w0 (put4at w g o v) := by
  have ht : Touch (fun k => k = g) w (put4at w g o v) := (((Touch.refl (fun k => k = g) w).set_ (a := ⟨g, o, none⟩) (fun _ => rfl) _).set_ (a := ⟨g, o + 1, none⟩) (fun _ => rfl) _).set_ (a := ⟨g, o + 2, none⟩) (fun _ => rfl) _ |>.set_ (a := ⟨g, o + 3, none⟩) (fun _ => rfl) _
  exact ⟨ht.os.trans hb.os, ht.tape.trans hb.tape, ht.output.trans hb.output, Nat.le_trans hb.size ht.size, fun k hk => (ht.block k (Nat.lt_of_lt_of_le hk hb.size) (by omega)).trans (hb.block k hk)⟩
end
theorem put4at_other {w : World} {g o : Nat} {v : Vec} {q : Addr} (h : q.block ≠ g) : (put4at w g o v).cell? q = w.cell? q := by
  have e : ∀ (w : World) (i : Nat) (x : Value), (w.setCell ⟨g, i, none⟩ x).cell? q = w.cell? q := fun w i x => World.cell?_of_block (Below.heap_setCell w ⟨g, i, none⟩ x q.block h)
  unfold put4at
  rw [e, e, e, e]
/-- One way round a link, as better answers it. -/
theorem relax_bet {n : Nat} {ids : Nat → Int} {F : Nat → Vec} {e : Ed} (hne : ids e.v ≠ ids e.u) : relax ids F e e.v = betV (F e.v) (ids e.v) (F e.u) (ids e.u) e.port e.cost ∧ ∀ j, j < n → j ≠ e.v → relax ids F e j = F j := by
  constructor
  · unfold relax betV takesE candE
    by_cases h : (F e.u).root < ids e.v ∧ ltV ⟨(F e.u).root, (F e.u).cost + e.cost, ids e.u, e.port⟩ (F e.v)
    · rw [if_pos ⟨rfl, h⟩, if_pos ⟨h.1, hne, h.2⟩]
    · rw [if_neg (fun c => h c.2), if_neg (fun c => h ⟨c.1, c.2.2⟩)]
  · intro j _ hj
    unfold relax
    exact if_neg fun c => hj c.1
end Go.Proofs.Ytadejdhdkkfliaa
