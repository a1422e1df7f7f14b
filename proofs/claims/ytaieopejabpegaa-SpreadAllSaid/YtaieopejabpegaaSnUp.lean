/- One port's view stored anew in a row of a law's own (layer 17). No condition but bounds on lengths. -/
import Derived.Test.YtaieopejabpegaaSnOwn
namespace Go.Proofs.Ytaieopejabpegaa
open Go.RowKit
set_option maxRecDepth 100000

theorem own_put {w : World} {base g n c size : Nat} {e : TypeId} {xs : List Value} (h : w.ownsRow base e size (.slice (some ⟨g, 0, none⟩) n c) n xs) (j : Nat) (u : Value) : (w.setCell ⟨g, j, none⟩ u).ownsRow base e size (.slice (some ⟨g, 0, none⟩) n c) n (xs.set j u) := by
  refine ⟨by rw [List.length_set]; exact h.1, .inr ?_⟩
  rcases h.2 with ⟨h, _⟩ | ⟨g', cap, cur, he, hb, hg, hn, hm, hs, ht⟩
  · cases h
  · injection he with e1 e2 e3
    injection e1 with e1
    injection e1 with e1
    subst e1 e3
    refine ⟨g, c, cur.setIfInBounds j u, rfl, hb, ?_, hn, hm, by simpa using hs, ?_⟩
    · simp [World.setCell, Array.getElem?_modify, hg]
    · rw [Array.toList_setIfInBounds, List.take_set, ht]
theorem cellsX_set (l : List Vx) (k : Nat) (hk : k < l.length) (x : Vx) : cellsX (l.set k x) = (((cellsX l).set (k * 3) (.bool x.op)).set (k * 3 + 1) (.slice x.A x.xs.length x.c)).set (k * 3 + 2) (.slice x.A' x.bs.length x.c') := by
  induction l generalizing k with
  | nil => simp at hk
  | cons y l ih =>
    cases k with
    | zero => rfl
    | succ k =>
      rw [List.set_cons_succ]
      unfold cellsX
      rw [ih k (by simpa using hk)]
      have e : ∀ j u (m : List Value), (y.cells ++ m).set ((k + 1) * 3 + j) u = y.cells ++ m.set (k * 3 + j) u := fun j u m => by
        rw [List.set_append_right _ _ (by rw [x3_len]; omega), x3_len, show (k + 1) * 3 + j - 3 = k * 3 + j by omega]
      have e0 := e 0
      simp only [Nat.add_zero] at e0
      rw [e0, e, e]
theorem OwnS.below {w w' : World} {B base c : Nat} {A : Option Addr} {l : List Vx} (h : OwnS w base A c l) (hb : Below B w w') (hB : B = w.heap.size) : OwnS w' base A c l := by
  subst hB
  exact own_heap h fun k hk => hb.block k (World.ownsRow.lt h k hk).2
/-- A world with the row, and the world behind the store. -/
theorem put_x {W : World} {base bM cM gA gB : Nat} {l : List Vx} (h : OwnS W base (some ⟨bM, 0, none⟩) cM l) {k : Nat} (hk : k < l.length) (op : Bool) (a : At) (m : Int)
    (hA : Blk W gA 24 #[.int .i64 a.t, .int .i64 a.v]) (hB : Blk W gB 3 #[.int .i64 m]) {B0 : Nat} (hrows : ∀ i, i < l.length → (l.getD i vx0).rows W B0) (hB0 : B0 ≤ base) (hbase : base ≤ W.heap.size) :
    VxAt (((W.setCell ⟨bM, k * 3, none⟩ (.bool op)).setCell ⟨bM, k * 3 + 1, none⟩ (.slice (some ⟨gA, 0, none⟩) 1 1)).setCell ⟨bM, k * 3 + 2, none⟩ (.slice (some ⟨gB, 0, none⟩) 1 1))
      (((W.setCell ⟨bM, k * 3, none⟩ (.bool op)).setCell ⟨bM, k * 3 + 1, none⟩ (.slice (some ⟨gA, 0, none⟩) 1 1)).setCell ⟨bM, k * 3 + 2, none⟩ (.slice (some ⟨gB, 0, none⟩) 1 1)).heap.size
      (some ⟨bM, 0, none⟩) (l.set k ⟨op, some ⟨gA, 0, none⟩, 1, [a], some ⟨gB, 0, none⟩, 1, [m]⟩) ∧
    Below base W (((W.setCell ⟨bM, k * 3, none⟩ (.bool op)).setCell ⟨bM, k * 3 + 1, none⟩ (.slice (some ⟨gA, 0, none⟩) 1 1)).setCell ⟨bM, k * 3 + 2, none⟩ (.slice (some ⟨gB, 0, none⟩) 1 1)) := by
  have hbM : base ≤ bM := (World.ownsRow.lt h bM rfl).1
  have bel : Below base W (((W.setCell ⟨bM, k * 3, none⟩ (.bool op)).setCell ⟨bM, k * 3 + 1, none⟩ (.slice (some ⟨gA, 0, none⟩) 1 1)).setCell ⟨bM, k * 3 + 2, none⟩ (.slice (some ⟨gB, 0, none⟩) 1 1)) :=
    (((Below.refl base W).setCell (p := ⟨bM, k * 3, none⟩) hbM _).setCell (p := ⟨bM, k * 3 + 1, none⟩) hbM _).setCell (p := ⟨bM, k * 3 + 2, none⟩) hbM _
  have nA : gA ≠ bM := fun e => own_ne h hA (by decide) (by rw [e]; rfl)
  have nB : gB ≠ bM := fun e => own_ne h hB (by decide) (by rw [e]; rfl)
  have kA := ((hA.far (a := ⟨bM, k * 3, none⟩) nA (.bool op)).far (a := ⟨bM, k * 3 + 1, none⟩) nA (.slice (some ⟨gA, 0, none⟩) 1 1)).far (a := ⟨bM, k * 3 + 2, none⟩) nA (.slice (some ⟨gB, 0, none⟩) 1 1)
  have kB := ((hB.far (a := ⟨bM, k * 3, none⟩) nB (.bool op)).far (a := ⟨bM, k * 3 + 1, none⟩) nB (.slice (some ⟨gA, 0, none⟩) 1 1)).far (a := ⟨bM, k * 3 + 2, none⟩) nB (.slice (some ⟨gB, 0, none⟩) 1 1)
  have ho := own_put (own_put (own_put h (k * 3) (.bool op)) (k * 3 + 1) (.slice (some ⟨gA, 0, none⟩) 1 1)) (k * 3 + 2) (.slice (some ⟨gB, 0, none⟩) 1 1)
  have hx := cellsX_set l k hk ⟨op, some ⟨gA, 0, none⟩, 1, [a], some ⟨gB, 0, none⟩, 1, [m]⟩
  simp only [List.length_singleton] at hx
  rw [← hx] at ho
  generalize (((W.setCell ⟨bM, k * 3, none⟩ (.bool op)).setCell ⟨bM, k * 3 + 1, none⟩ (.slice (some ⟨gA, 0, none⟩) 1 1)).setCell ⟨bM, k * 3 + 2, none⟩ (.slice (some ⟨gB, 0, none⟩) 1 1)) = W' at *
  refine ⟨?_, bel⟩
  have ho' : OwnS W' base (some ⟨bM, 0, none⟩) cM (l.set k ⟨op, some ⟨gA, 0, none⟩, 1, [a], some ⟨gB, 0, none⟩, 1, [m]⟩) := by
    unfold OwnS
    rw [List.length_set]
    exact ho
  refine ho'.vx fun i hi => ?_
  rw [List.length_set] at hi
  by_cases e : i = k
  · subst e
    have e1 : (l.set i ⟨op, some ⟨gA, 0, none⟩, 1, [a], some ⟨gB, 0, none⟩, 1, [m]⟩).getD i vx0 = ⟨op, some ⟨gA, 0, none⟩, 1, [a], some ⟨gB, 0, none⟩, 1, [m]⟩ := by
      rw [List.getD_eq_getElem?_getD, List.getElem?_set_self hi]
      rfl
    rw [e1]
    refine ⟨fun q hq => ?_, fun q hq => ?_⟩
    · obtain rfl : q = 0 := by have : q < 1 := hq; omega
      exact ⟨gA, 0, rfl, kA.lt, kA.cell 0, kA.cell 1⟩
    · obtain rfl : q = 0 := by have : q < 1 := hq; omega
      exact ⟨gB, 0, rfl, kB.lt, kB.cell 0⟩
  · have e1 : (l.set k ⟨op, some ⟨gA, 0, none⟩, 1, [a], some ⟨gB, 0, none⟩, 1, [m]⟩).getD i vx0 = l.getD i vx0 := by
      rw [List.getD_eq_getElem?_getD, List.getD_eq_getElem?_getD, List.getElem?_set_ne (fun c => e c.symm)]
    rw [e1]
    have hr := hrows i hi
    refine Vx.rows_more (B := B0) ⟨fun q hq => ?_, fun q hq => ?_⟩ (Nat.le_trans hB0 (Nat.le_trans hbase bel.size))
    · obtain ⟨b, off, e, hl, c0, c1⟩ := hr.1 q hq
      exact ⟨b, off, e, hl, (bel.cell (p := ⟨b, off + q * 2, none⟩) (Nat.lt_of_lt_of_le hl hB0)).trans c0, (bel.cell (p := ⟨b, off + q * 2 + 1, none⟩) (Nat.lt_of_lt_of_le hl hB0)).trans c1⟩
    · obtain ⟨b, off, e, hl, c0⟩ := hr.2 q hq
      exact ⟨b, off, e, hl, (bel.cell (p := ⟨b, off + q, none⟩) (Nat.lt_of_lt_of_le hl hB0)).trans c0⟩
theorem vws_set (l : List Vx) (k : Nat) (x : Vx) : vws (l.set k x) = (vws l).set k x.v := by
  unfold vws
  rw [List.map_set]
end Go.Proofs.Ytaieopejabpegaa
