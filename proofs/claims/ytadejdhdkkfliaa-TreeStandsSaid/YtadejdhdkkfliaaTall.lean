/- Bridges side by side in memory, each with blocks of its own; a row of pointers to them. No condition. -/
import Derived.Test.YtadejdhdkkfliaaTset
import Derived.Test.YtadejdhdkkfliaaTsys
namespace Go.Proofs.Ytadejdhdkkfliaa
open Go.RowKit
set_option maxRecDepth 100000

def updF {α : Type} (F : Nat → α) (x : Nat) (a : α) : Nat → α := fun y => if y = x then a else F y
theorem updF_at {α : Type} (F : Nat → α) (x : Nat) (a : α) : updF F x a x = a := if_pos rfl
theorem updF_ne {α : Type} (F : Nat → α) {x y : Nat} (a : α) (h : y ≠ x) : updF F x a y = F y := if_neg h
structure AllW (w : World) (n : Nat) (ids : Nat → Int) (g gp : Nat → Nat) (B : Nat → Nat → Pt) (fw : Nat → Nat → Bool) (ch : Nat → Int) : Prop where
  at_ : ∀ x, x < n → TreeW w (g x) (gp x) (ids x) 6 (B x) (fw x) (ch x)
  gg : ∀ x y, x < n → y < n → x ≠ y → g x ≠ g y
  pp : ∀ x y, x < n → y < n → x ≠ y → gp x ≠ gp y
  gp_ : ∀ x y, x < n → y < n → g x ≠ gp y
theorem AllW.none (w : World) (ids : Nat → Int) (g gp : Nat → Nat) (B : Nat → Nat → Pt) (fw : Nat → Nat → Bool) (ch : Nat → Int) : AllW w 0 ids g gp B fw ch :=
  ⟨fun _ h => absurd h (Nat.not_lt_zero _), fun _ _ h => absurd h (Nat.not_lt_zero _), fun _ _ h => absurd h (Nat.not_lt_zero _), fun _ _ h => absurd h (Nat.not_lt_zero _)⟩
theorem AllW.below {w w' : World} {n : Nat} {ids : Nat → Int} {g gp : Nat → Nat} {B : Nat → Nat → Pt} {fw : Nat → Nat → Bool} {ch : Nat → Int} (h : AllW w n ids g gp B fw ch) (hb : Below w.heap.size w w') : AllW w' n ids g gp B fw ch :=
  ⟨fun x hx => TreeAt.below (h.at_ x hx) hb, h.gg, h.pp, h.gp_⟩
theorem AllW.lt {w : World} {n : Nat} {ids : Nat → Int} {g gp : Nat → Nat} {B : Nat → Nat → Pt} {fw : Nat → Nat → Bool} {ch : Nat → Int} (h : AllW w n ids g gp B fw ch) {x : Nat} (hx : x < n) : g x < w.heap.size ∧ gp x < w.heap.size :=
  ⟨TreeAt.top (h.at_ x hx) |>.lt, TreeAt.ports (h.at_ x hx) |>.lt⟩
/-- One bridge turns, the others stay. -/
theorem AllW.step {w w' : World} {n : Nat} {ids : Nat → Int} {g gp : Nat → Nat} {B : Nat → Nat → Pt} {fw : Nat → Nat → Bool} {ch : Nat → Int} (h : AllW w n ids g gp B fw ch) {x : Nat} (hx : x < n) (ht : Touch (fun k => k = g x ∨ k = gp x) w w')
    {f : Nat → Pt} {fx : Nat → Bool} {cx : Int} (hn : TreeW w' (g x) (gp x) (ids x) 6 f fx cx) : AllW w' n ids g gp (updB B x f) (updF fw x fx) (updF ch x cx) where
  at_ y hy := by
    by_cases e : y = x
    · subst e
      rw [updB_at, updF_at, updF_at]
      exact hn
    · rw [updB_ne B f e, updF_ne fw fx e, updF_ne ch cx e]
      exact TreeAt.touch (h.at_ y hy) ht (fun k => k.elim (fun k => h.gg y x hy hx e k) (fun k => h.gp_ y x hy hx k)) (fun k => k.elim (fun k => h.gp_ x y hx hy k.symm) (fun k => h.pp y x hy hx e k))
  gg := h.gg
  pp := h.pp
  gp_ := h.gp_
/-- One bridge more. -/
theorem AllW.more {w w' : World} {n : Nat} {ids : Nat → Int} {g gp : Nat → Nat} {B : Nat → Nat → Pt} {fw : Nat → Nat → Bool} {ch : Nat → Int} (h : AllW w n ids g gp B fw ch) (hb : Below w.heap.size w w') {a ap : Nat} {f : Nat → Pt} {fx : Nat → Bool} {cx : Int}
    (hn : TreeW w' a ap (ids n) 6 f fx cx) (ha : w.heap.size ≤ a) (hp : w.heap.size ≤ ap) : AllW w' (n + 1) ids (updF g n a) (updF gp n ap) (updB B n f) (updF fw n fx) (updF ch n cx) := by
  have hne : a ≠ ap := TreeAt.ne hn
  have hlt : ∀ x, x < n → g x < w.heap.size ∧ gp x < w.heap.size := fun x hx => h.lt hx
  refine ⟨fun x hx => ?_, fun x y hx hy hxy => ?_, fun x y hx hy hxy => ?_, fun x y hx hy => ?_⟩
  · by_cases e : x = n
    · subst e
      rw [updF_at, updF_at, updB_at, updF_at, updF_at]
      exact hn
    · rw [updF_ne g a e, updF_ne gp ap e, updB_ne B f e, updF_ne fw fx e, updF_ne ch cx e]
      exact TreeAt.below (h.at_ x (by omega)) hb
  · unfold updF
    by_cases e1 : x = n <;> by_cases e2 : y = n
    · omega
    · rw [if_pos e1, if_neg e2]; have := (hlt y (by omega)).1; omega
    · rw [if_neg e1, if_pos e2]; have := (hlt x (by omega)).1; omega
    · rw [if_neg e1, if_neg e2]; exact h.gg x y (by omega) (by omega) hxy
  · unfold updF
    by_cases e1 : x = n <;> by_cases e2 : y = n
    · omega
    · rw [if_pos e1, if_neg e2]; have := (hlt y (by omega)).2; omega
    · rw [if_neg e1, if_pos e2]; have := (hlt x (by omega)).2; omega
    · rw [if_neg e1, if_neg e2]; exact h.pp x y (by omega) (by omega) hxy
  · unfold updF
    by_cases e1 : x = n <;> by_cases e2 : y = n
    · rw [if_pos e1, if_pos e2]; exact hne
    · rw [if_pos e1, if_neg e2]; have := (hlt y (by omega)).2; omega
    · rw [if_neg e1, if_pos e2]; have := (hlt x (by omega)).1; omega
    · rw [if_neg e1, if_neg e2]; exact h.gp_ x y (by omega) (by omega)
/-- A row of pointers that is one's own. -/
def OwnP (w : World) (base : Nat) (A : Option Addr) (c : Nat) (l : List Nat) : Prop := w.ownsRow base 25 1 (.slice A l.length c) l.length (l.map fun k => .pointer (some ⟨k, 0, none⟩))
theorem OwnP.at_ {w : World} {base c : Nat} {A : Option Addr} {l : List Nat} (h : OwnP w base A c l) {k : Nat} (hk : k < l.length) : ∃ b, A = some ⟨b, 0, none⟩ ∧ base ≤ b ∧ b < w.heap.size ∧ w.cell? ⟨b, k, none⟩ = some (.pointer (some ⟨l.getD k 0, 0, none⟩)) := by
  obtain ⟨b, rfl, hl, hc⟩ := own_at h (by omega)
  exact ⟨b, rfl, (World.ownsRow.lt h b rfl).1, hl, hc k _ (by rw [List.getElem?_map, List.getD_eq_getElem?_getD, List.getElem?_eq_getElem hk]; rfl)⟩
theorem tptr_info : (Try.prog.info? 25).map (fun i => (i.zero, i.size, i.bytes)) = some (some (.pointer none), 1, 8) := by kernel_rfl
theorem append_ptr (w : World) (base : Nat) (A0 : Option Addr) (c0 n0 : Nat) (l : List Nat) (hl0 : l.length = n0) (hown : OwnP w base A0 c0 l) (g : Nat) (s : Nat) (hg : Blk w g 25 #[.pointer (some ⟨s, 0, none⟩)]) (hn : l.length ≤ 1048576) (hbase : base ≤ w.heap.size) :
    ∃ a' c' w', (Builtin.append_ #[59, 59] 59 #[.slice A0 n0 c0, .slice (some ⟨g, 0, none⟩) 1 1]).run Try.prog w = .ok (.slice a' (n0 + 1) c') w' ∧ OwnP w' base a' c' (l ++ [s]) ∧ w.grownBy w' (Value.slice A0 n0 c0).ownBlock := by
  subst hl0
  obtain ⟨i0, hi0, hz0, hz1, hz2⟩ := info_parts tptr_info
  obtain ⟨a', c', w', hr, ho, hgr, _, _⟩ := append_src w base 59 59 25 i0 _ 1 8 Try.underlying59 hi0 hz0 hz1 hz2 rfl (by decide) _ l.length _ hown (some ⟨g, 0, none⟩) 1 1 [.pointer (some ⟨s, 0, none⟩)] rfl (fun h => by cases h)
    (fun _ => ⟨g, 0, rfl, fun j u hu => by
      rw [Nat.zero_add, hg.cell, ← hu]
      simp⟩)
    (fun u hu => by simp only [List.mem_cons, List.not_mem_nil, or_false] at hu; subst hu; rfl) (by unfold maxLen; omega) (by omega) hbase
  refine ⟨a', c', w', hr, ?_, hgr⟩
  unfold OwnP
  rw [List.map_append, List.length_append]
  exact ho
end Go.Proofs.Ytadejdhdkkfliaa
