/- RelayQuiet (layer 19), over what the program's relay must answer. Its condition: the form's reach. -/
import Derived.Test.YtnhnllkcnpbgoaaRlB
namespace Go.Proofs.Ytnhnllkcnpbgoaa
open Go.RowKit
set_option maxRecDepth 100000

def stillX (x : Px) : Px := ⟨if 1 ≤ x.st then 1 else 0, x.pv, x.sp, x.A, x.c, x.ms⟩
def bareX (x : Px) : Px := ⟨x.st, x.pv, x.sp, none, 0, []⟩
theorem getD_map_px (g : Px → Px) (l : List Px) (k : Nat) (hk : k < l.length) : (l.map g).getD k px0 = g (l.getD k px0) := by
  rw [List.getD_eq_getElem?_getD, List.getElem?_map, List.getD_eq_getElem?_getD, List.getElem?_eq_getElem hk]
  rfl
theorem still_none (l : List Px) (i : Int) (f : Fr) (s : Dt) : rlS (l.map stillX) i f s = [] := by
  unfold rlS rlP relayP
  have h : goesB ((l.map stillX).map Px.p) i f = false := by
    unfold goesB
    rw [map_px, List.length_map, List.length_map]
    by_cases c : 0 ≤ i ∧ i < l.length
    · rw [getD_map_px stillX l i.toNat (by omega)]
      have : ¬ (stillX (l.getD i.toNat px0)).p.st = 2 := by
        show ¬ (if 1 ≤ (l.getD i.toNat px0).st then (1 : Int) else 0) = 2
        split <;> omega
      rw [decide_eq_false this, Bool.and_false, Bool.false_and, Bool.false_and, Bool.false_and]
    · simp only [c, decide_false, Bool.false_and]
  rw [h]
  rfl
theorem bare_none (l : List Px) (i : Int) (f : Fr) (s : Dt) : rlS (l.map bareX) i f s = [] := by
  unfold rlS rlP
  refine relayP_none fun k hk => ?_
  rw [List.length_map, List.length_map] at hk
  unfold leavesB
  rw [map_px ((l.map bareX)) k, getD_map_px bareX l k hk]
  show (_ && decide (_ ∈ ([] : List Int)) && _) = false
  simp
theorem odd_none (l : List Px) (i : Int) (f : Fr) (s : Dt) (h : f.src = -1) : rlS l i f s = [] := by
  unfold rlS rlP
  refine relayP_bad ?_
  unfold Fr.good
  rw [h, show goodB (-1) = false from by decide]
  simp
theorem few_map (g : Px → Px) (hg : ∀ x, (g x).ms.length ≤ x.ms.length) {l : List Px} (h : PxFew l) : PxFew (l.map g) := ⟨by rw [List.length_map]; exact h.len, fun k hk => by
  rw [List.length_map] at hk
  rw [getD_map_px g l k hk]
  exact Nat.le_trans (hg _) (h.ms k hk)⟩
theorem OwnPx.below {T : TypeId} {w w' : World} {base c : Nat} {A : Option Addr} {l : List Px} (h : OwnPx T w base A c l) (hb : Below w.heap.size w w') : OwnPx T w' base A c l := own_heap h fun k hk => hb.block k (World.ownsRow.lt h k hk).2
/-- Both rows, side by side. -/
structure Rows2 (w : World) (base : Nat) (A1 : Option Addr) (c1 : Nat) (L1 : List Px) (A2 : Option Addr) (c2 : Nat) (L2 : List Px) : Prop where
  o1 : OwnPx 42 w base A1 c1 L1
  o2 : OwnPx 42 w base A2 c2 L2
  sep : ∀ k, (Value.slice A1 0 0).ownBlock = some k → (Value.slice A2 0 0).ownBlock ≠ some k
theorem own_any (A : Option Addr) (n c n' c' : Nat) : (Value.slice A n c).ownBlock = (Value.slice A n' c').ownBlock := by cases A <;> rfl
theorem Rows2.push1 {w : World} {base c1 c2 n : Nat} {A1 A2 : Option Addr} {L1 L2 : List Px} (h : Rows2 w base A1 c1 L1 A2 c2 L2) (hn : L1.length = n) (hle : n ≤ 1000000) (g : Nat) (x : Px) (hg : Blk w g 42 x.cells.toArray) (hb : base ≤ w.heap.size) :
    ∃ a' c' w', (Builtin.append_ #[22, 22] 22 #[.slice A1 n c1, .slice (some ⟨g, 0, none⟩) 1 1]).run Try.prog w = .ok (.slice a' (n + 1) c') w' ∧ Rows2 w' base a' c' (L1 ++ [x]) A2 c2 L2 ∧ Below base w w' ∧ w.heap.size ≤ w'.heap.size ∧ (∀ k, k < w.heap.size → k ≥ base → (∀ q, (Value.slice A1 0 0).ownBlock = some q → k ≠ q) → w'.heap[k]? = w.heap[k]?) ∧ (∀ q, (Value.slice a' 0 0).ownBlock = some q → (Value.slice A1 0 0).ownBlock = some q ∨ w.heap.size ≤ q) := by
  obtain ⟨a', c', w', hr, ho, hgr, hmv⟩ := append_px 42 22 Try.underlying22 po_info w base A1 c1 n L1 hn h.o1 g x hg (by omega) hb
  have hs := hgr.size
  refine ⟨a', c', w', hr, ⟨ho, ?_, ?_⟩, ?_, hs, fun k hk _ hne => hgr.block k hk (fun e => hne k (by rw [own_any _ _ _ n c1]; exact e.symm) rfl), fun q hq => ?_⟩
  · refine own_heap h.o2 fun k hk => hgr.block k (World.ownsRow.lt h.o2 k hk).2 (fun e => ?_)
    exact h.sep k (by rw [own_any _ _ _ n c1]; exact e.symm) (by rw [own_any _ _ _ L2.length c2]; exact hk)
  · intro k hk h2
    rcases hmv with hm | ⟨q, hq, hm⟩
    · rw [own_any _ _ _ (n + 1) c', hm, own_any _ _ _ 0 0] at hk
      exact h.sep k hk h2
    · rw [own_any _ _ _ (n + 1) c', hm] at hk
      injection hk with hk
      subst hk
      rw [own_any _ _ _ L2.length c2] at h2
      have := (World.ownsRow.lt h.o2 q h2).2
      omega
  · refine (Below.refl base w).grown hgr hb (fun q hq => ?_)
    have ho1 := h.o1
    unfold OwnPx at ho1
    rw [hn] at ho1
    exact (World.ownsRow.lt ho1 q hq).1
  · rcases hmv with hm | ⟨z, hz, hm⟩
    · rw [own_any _ _ _ (n + 1) c', hm, own_any _ _ _ 0 0] at hq
      exact .inl hq
    · rw [own_any _ _ _ (n + 1) c', hm] at hq
      injection hq with hq
      exact .inr (by omega)
theorem Rows2.swap {w : World} {base c1 c2 : Nat} {A1 A2 : Option Addr} {L1 L2 : List Px} (h : Rows2 w base A1 c1 L1 A2 c2 L2) : Rows2 w base A2 c2 L2 A1 c1 L1 := ⟨h.o2, h.o1, fun k h1 h2 => h.sep k h2 h1⟩
theorem Rows2.keep {w w' : World} {base c1 c2 : Nat} {A1 A2 : Option Addr} {L1 L2 : List Px} (h : Rows2 w base A1 c1 L1 A2 c2 L2) (hN : ∀ k, ((Value.slice A1 0 0).ownBlock = some k ∨ (Value.slice A2 0 0).ownBlock = some k) → w'.heap[k]? = w.heap[k]?) : Rows2 w' base A1 c1 L1 A2 c2 L2 :=
  ⟨own_heap h.o1 fun k hk => hN k (.inl (by rw [own_any _ _ _ L1.length c1]; exact hk)), own_heap h.o2 fun k hk => hN k (.inr (by rw [own_any _ _ _ L2.length c2]; exact hk)), h.sep⟩
theorem Rows2.lt1 {w : World} {base c1 c2 : Nat} {A1 A2 : Option Addr} {L1 L2 : List Px} (h : Rows2 w base A1 c1 L1 A2 c2 L2) (k : Nat) (hk : (Value.slice A1 0 0).ownBlock = some k) : base ≤ k ∧ k < w.heap.size := World.ownsRow.lt h.o1 k (by rw [own_any _ _ _ 0 0]; exact hk)
theorem Rows2.lt2 {w : World} {base c1 c2 : Nat} {A1 A2 : Option Addr} {L1 L2 : List Px} (h : Rows2 w base A1 c1 L1 A2 c2 L2) (k : Nat) (hk : (Value.slice A2 0 0).ownBlock = some k) : base ≤ k ∧ k < w.heap.size := World.ownsRow.lt h.o2 k (by rw [own_any _ _ _ 0 0]; exact hk)
end Go.Proofs.Ytnhnllkcnpbgoaa
