/- Rows of ports' views and of numbers of a law's own (layer 17): append of what lies elsewhere; parts of rows. No condition but bounds on lengths. -/
import Derived.Test.YtaieopejabpegaaSnAlive
namespace Go.Proofs.Ytaieopejabpegaa
open Go.RowKit
set_option maxRecDepth 100000

theorem cellsX_len (l : List Vx) : (cellsX l).length = l.length * 3 := by
  induction l with
  | nil => rfl
  | cons x l ih => unfold cellsX; rw [List.length_append, x3_len, ih, List.length_cons]; omega
theorem cellsX_one (l : List Vx) : ∀ u ∈ cellsX l, u.oneCell' = true := by
  induction l with
  | nil => intro u hu; cases hu
  | cons x l ih =>
    intro u hu
    rcases List.mem_append.1 hu with h | h
    · simp only [Vx.cells, List.mem_cons, List.not_mem_nil, or_false] at h
      rcases h with rfl | rfl | rfl <;> rfl
    · exact ih u h
theorem VxAt.src {w : World} {B : Nat} {A : Option Addr} {l : List Vx} (h : VxAt w B A l) (hp : 0 < l.length) : ∃ b off, A = some ⟨b, off, none⟩ ∧ ∀ j u, (cellsX l)[j]? = some u → w.cell? ⟨b, off + j, none⟩ = some u := by
  obtain ⟨⟨b, off, e, _, _⟩, _⟩ := h 0 hp
  refine ⟨b, off, e, fun j u hu => ?_⟩
  have hj : j < l.length * 3 := by rw [← cellsX_len]; exact (List.getElem?_eq_some_iff.1 hu).1
  obtain ⟨⟨b', off', e', _, hc⟩, _⟩ := h (j / 3) (by omega)
  rw [e] at e'
  injection e' with e'
  injection e' with e1 e2
  subst e1 e2
  have hk : j / 3 * 3 + j % 3 = j := by omega
  rw [← hk] at hu
  rw [cellsX_at l (j / 3) (by omega) (j % 3) (by omega)] at hu
  rw [← hk, ← Nat.add_assoc]
  rcases (show j % 3 = 0 ∨ j % 3 = 1 ∨ j % 3 = 2 by omega) with e | e | e <;> rw [e] at hu ⊢
  · exact hc.c0.trans hu
  · exact hc.c1.trans hu
  · exact hc.c2.trans hu
def OwnS (w : World) (base : Nat) (A : Option Addr) (c : Nat) (l : List Vx) : Prop := w.ownsRow base 43 3 (.slice A l.length c) l.length (cellsX l)
theorem OwnS.at_ {w : World} {base c : Nat} {A : Option Addr} {l : List Vx} (h : OwnS w base A c l) {k : Nat} (hk : k < l.length) : ∃ b, A = some ⟨b, 0, none⟩ ∧ base ≤ b ∧ b < w.heap.size ∧ VxCells w b (k * 3) (l.getD k vx0) := by
  obtain ⟨b, rfl, hl, hc⟩ := own_at h (by omega)
  have hj : ∀ j, j < 3 → ∀ u, (l.getD k vx0).cells[j]? = some u → w.cell? ⟨b, k * 3 + j, none⟩ = some u := fun j hj u hu => hc _ _ ((cellsX_at l k hk j hj).trans hu)
  exact ⟨b, rfl, (World.ownsRow.lt h b rfl).1, hl, hj 0 (by omega) _ rfl, hj 1 (by omega) _ rfl, hj 2 (by omega) _ rfl⟩
theorem OwnS.vx {w : World} {base c : Nat} {A : Option Addr} {l : List Vx} (h : OwnS w base A c l) (hr : ∀ k, k < l.length → (l.getD k vx0).rows w w.heap.size) : VxAt w w.heap.size A l := fun k hk => by
  obtain ⟨b, e, _, hl, hc⟩ := h.at_ hk
  exact ⟨⟨b, 0, e, hl, by rw [Nat.zero_add]; exact hc⟩, hr k hk⟩
theorem sview_info : (Try.prog.info? 43).map (fun i => (i.zero, i.size, i.bytes)) = some (some (.agg #[.bool false, .slice none 0 0, .slice none 0 0]), 3, 56) := by kernel_rfl
theorem append_s (w : World) (base : Nat) (A0 : Option Addr) (c0 n0 : Nat) (l : List Vx) (hl0 : l.length = n0) (hown : OwnS w base A0 c0 l) (A : Option Addr) (c n1 B : Nat) (m : List Vx) (hl1 : m.length = n1) (hnone : A = none → c = 0) (hsrc : VxAt w B A m) (hn : l.length + m.length ≤ 1048576) (hbase : base ≤ w.heap.size) :
    ∃ a' c' w', (Builtin.append_ #[22, 22] 22 #[.slice A0 n0 c0, .slice A n1 c]).run Try.prog w = .ok (.slice a' (n0 + n1) c') w' ∧ OwnS w' base a' c' (l ++ m) ∧ w.grownBy w' (Value.slice A0 n0 c0).ownBlock := by
  subst hl0 hl1
  obtain ⟨i0, hi0, hz0, hz1, hz2⟩ := info_parts sview_info
  obtain ⟨a', c', w', hr, ho, hgr, _, _⟩ := append_src w base 22 22 43 i0 _ 3 56 Try.underlying22 hi0 hz0 hz1 hz2 rfl (by decide) _ l.length _ hown A m.length c (cellsX m) (cellsX_len m) hnone hsrc.src (cellsX_one m) (by unfold maxLen; omega) (by omega) hbase
  refine ⟨a', c', w', hr, ?_, hgr⟩
  unfold OwnS
  rw [cellsX_app, List.length_append]
  exact ho
/-- Rows of numbers. -/
def numsV (l : List Int) : List Value := l.map (Value.int .i64)
theorem numsV_at {l : List Int} {k : Nat} (h : k < l.length) : (numsV l)[k]? = some (.int .i64 (l.getD k 0)) := by
  rw [numsV, List.getElem?_map, List.getD_eq_getElem?_getD, List.getElem?_eq_getElem h]
  rfl
def OwnJ (w : World) (base : Nat) (A : Option Addr) (c : Nat) (l : List Int) : Prop := w.ownsRow base 3 1 (.slice A l.length c) l.length (numsV l)
theorem OwnJ.at_ {w : World} {base c : Nat} {A : Option Addr} {l : List Int} (h : OwnJ w base A c l) : IntAt w w.heap.size A l := fun k hk => by
  obtain ⟨b, e, hb, hc⟩ := own_at h (by omega)
  exact ⟨b, 0, e, hb, by rw [Nat.zero_add]; exact hc _ _ (numsV_at hk)⟩
theorem append_j (w : World) (base : Nat) (A0 : Option Addr) (c0 n0 : Nat) (l : List Int) (hl0 : l.length = n0) (hown : OwnJ w base A0 c0 l) (A : Option Addr) (c n1 B : Nat) (m : List Int) (hl1 : m.length = n1) (hnone : A = none → c = 0) (hsrc : IntAt w B A m) (hn : l.length + m.length ≤ 1048576) (hbase : base ≤ w.heap.size) :
    ∃ a' c' w', (Builtin.append_ #[29, 29] 29 #[.slice A0 n0 c0, .slice A n1 c]).run Try.prog w = .ok (.slice a' (n0 + n1) c') w' ∧ OwnJ w' base a' c' (l ++ m) ∧ w.grownBy w' (Value.slice A0 n0 c0).ownBlock := by
  subst hl0 hl1
  obtain ⟨i0, hi0, hz0, hz1, hz2⟩ := info_parts int_info
  obtain ⟨a', c', w', hr, ho, hgr, _, _⟩ := append_src w base 29 29 3 i0 _ 1 8 Try.underlying29 hi0 hz0 hz1 hz2 rfl (by decide) _ l.length (numsV l) hown A m.length c (numsV m) (by simp [numsV]) hnone
    (fun hpos => by
      obtain ⟨b, off, e, _, _⟩ := hsrc 0 hpos
      refine ⟨b, off, e, fun j u hu => ?_⟩
      have hj : j < m.length := by have := (List.getElem?_eq_some_iff.1 hu).1; simpa [numsV] using this
      obtain ⟨b', off', e', _, p⟩ := hsrc j hj
      rw [e] at e'
      injection e' with e'
      injection e' with e1 e2
      subst e1 e2
      rw [numsV_at hj, Option.some.injEq] at hu
      subst hu
      exact p)
    (fun u hu => by
      obtain ⟨x, _, rfl⟩ := List.mem_map.1 hu
      rfl) (by unfold maxLen; omega) (by omega) hbase
  refine ⟨a', c', w', hr, ?_, hgr⟩
  unfold OwnJ
  rw [numsV, List.map_append, List.length_append]
  exact ho
/-- Parts of rows. -/
theorem VxAt.take {w : World} {B : Nat} {A : Option Addr} {l : List Vx} (h : VxAt w B A l) (k : Nat) : VxAt w B A (l.take k) := fun i hi => by
  rw [List.length_take] at hi
  have e : (l.take k).getD i vx0 = l.getD i vx0 := by rw [List.getD_eq_getElem?_getD, List.getD_eq_getElem?_getD, List.getElem?_take, if_pos (by omega)]
  rw [e]
  exact h i (by omega)
theorem VxAt.drop {w : World} {B b off : Nat} {l : List Vx} (h : VxAt w B (some ⟨b, off, none⟩) l) (k : Nat) : VxAt w B (some ⟨b, off + k * 3, none⟩) (l.drop k) := fun i hi => by
  rw [List.length_drop] at hi
  have e : (l.drop k).getD i vx0 = l.getD (k + i) vx0 := by rw [List.getD_eq_getElem?_getD, List.getD_eq_getElem?_getD, List.getElem?_drop]
  rw [e]
  obtain ⟨⟨b', off', e', hl, hc⟩, hr⟩ := h (k + i) (by omega)
  injection e' with e'
  injection e' with e1 e2
  subst e1 e2
  exact ⟨⟨b, off + k * 3, rfl, hl, by rw [show off + k * 3 + i * 3 = off + (k + i) * 3 by omega]; exact hc⟩, hr⟩
theorem IntAt.take {w : World} {B : Nat} {A : Option Addr} {l : List Int} (h : IntAt w B A l) (k : Nat) : IntAt w B A (l.take k) := fun i hi => by
  rw [List.length_take] at hi
  have e : (l.take k).getD i 0 = l.getD i 0 := by rw [List.getD_eq_getElem?_getD, List.getD_eq_getElem?_getD, List.getElem?_take, if_pos (by omega)]
  rw [e]
  exact h i (by omega)
theorem IntAt.drop {w : World} {B b off : Nat} {l : List Int} (h : IntAt w B (some ⟨b, off, none⟩) l) (k : Nat) : IntAt w B (some ⟨b, off + k, none⟩) (l.drop k) := fun i hi => by
  rw [List.length_drop] at hi
  have e : (l.drop k).getD i 0 = l.getD (k + i) 0 := by rw [List.getD_eq_getElem?_getD, List.getD_eq_getElem?_getD, List.getElem?_drop]
  rw [e]
  obtain ⟨b', off', e', hl, hc⟩ := h (k + i) (by omega)
  injection e' with e'
  injection e' with e1 e2
  subst e1 e2
  exact ⟨b, off + k, rfl, hl, by rw [Nat.add_assoc]; exact hc⟩
theorem own_blank (w : World) (base size : Nat) (t : TypeId) (hb : base ≤ w.heap.size) : (w.alloc (.cells #[] t)).ownsRow base t size (.slice (some ⟨w.heap.size, 0, none⟩) 0 0) 0 [] :=
  ⟨by simp, .inr ⟨w.heap.size, 0, #[], rfl, hb, Blk.new w t #[], Nat.le_refl _, Nat.zero_le _, by simp, by simp⟩⟩
end Go.Proofs.Ytaieopejabpegaa
