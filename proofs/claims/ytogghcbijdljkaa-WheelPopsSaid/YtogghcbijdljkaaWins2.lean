/- slices.Insert of one timer among others, where there is room. Its condition: fewer than 2^20 timers. -/
import Derived.Test.YtogghcbijdljkaaWins
namespace Go.Proofs.Ytogghcbijdljkaa
open Go.RowKit
set_option maxRecDepth 100000

/-- A copy in a region that draws. -/
theorem step_copy_run2 {P : Program} {ops : Array Oper} {o : Oper} {a : Act} {w : World} {K : Act → World → Prop} {Q : Exit → Act → World → Prop} {E : Prop}
    (hg : o.guard = none) (d x : Operand) (dT sT : TypeId) (hop : o.op = Op.call { callee := Callee.builtin Builtin.copy, args := #[d, x], argTypes := #[dT, sT] })
    (v u : Value) (hd : a.eval d = v) (hx : a.eval x = u) {v' : Value} {w' : World} (hr : (Builtin.copy_ #[dT, sT] o.type #[v, u]).run P w = .ok v' w') (hK : K (a.put o.dst v') w') :
    if Region.wanted o (yielded ops a.tmps) = true then Oper.wp P o a w K Q else E := by
  have hw : Region.wanted o (yielded ops a.tmps) = true := by simp [Region.wanted, hg]
  rw [if_pos hw]
  unfold Oper.wp
  simp [execOp, hop, resolve, invoke, builtin, hd, hx, hr, Result.andThen]
  exact hK
theorem wpList_copy_run2 {P : Program} (w : World) {ops : Array Oper} {rest : List Oper} {o : Oper} {a : Act} {Q : Exit → Act → World → Prop} (hgd : o.guard = none) (d s : Operand) (t t' : TypeId)
    (ho : o.op = .call { callee := .builtin .copy, args := #[d, s], argTypes := #[t, t'] }) (v u : Value) (hd : a.eval d = v) (hs : a.eval s = u) {v' : Value} {w' : World}
    (hr : (Builtin.copy_ #[t, t'] o.type #[v, u]).run P w = .ok v' w') (h : wpList P ops Q rest (a.put o.dst v') w') : wpList P ops Q (o :: rest) a w :=
  wpList_plain hgd fun _ hK => by
    unfold Oper.wp execOp
    simp only [ho, resolve, invoke, builtin, Sem.run_bind, Sem.run_pure, Result.andThen_ok, List.map_toArray, List.map_cons, List.map_nil, hd, hs, hr]
    exact hK _ _ h
set_option maxRecDepth 100000 in
set_option maxHeartbeats 2000000 in
theorem insert_room (g c i vb : Nat) (l : List Tm) (x : Tm) (base : Nat) (w : World) (h : OwnT w base (some ⟨g, 0, none⟩) c l) (hn : l.length ≤ 1048000) (hv : Blk w vb 46 #[.int .i64 x.due, .int .i64 x.key]) (hvg : vb ≠ g) (hi : i < l.length) (hroom : l.length + 1 ≤ c) :
    Calls Try.prog 40 #[.slice (some ⟨g, 0, none⟩) l.length c, .int .i64 (i : Int), .slice (some ⟨vb, 0, none⟩) 1 1] w fun e w' =>
      e = .returned (.slice (some ⟨g, 0, none⟩) (insT l i x).length c) ∧ OwnT w' base (some ⟨g, 0, none⟩) c (insT l i x) ∧ w.grownBy w' (some g) := by
  obtain ⟨cur, hg0, hb0, hm0, hs0⟩ : ∃ cur, w.heap[g]? = some (.cells cur 46 (0, 0)) ∧ base ≤ g ∧ c ≤ maxLen ∧ cur.size = c * 2 := by
    rcases h.2 with ⟨e0, _⟩ | ⟨g', cap', cur, e0, hb, hg, hn', hm, hs, ht⟩
    · cases e0
    · injection e0 with e1 _ e3
      injection e1 with e1
      injection e1 with e1
      subst e1 e3
      exact ⟨cur, hg, hb, hm, hs⟩
  have hblk : Blk w g 46 cur := hg0
  have hold : ∀ j u, (tmL l)[j]? = some u → w.cell? ⟨g, j, none⟩ = some u := fun j u hu => by
    have := h.cells (g := g) rfl j u hu
    rwa [Addr.add_lit, Nat.zero_add] at this
  have hsome : ∀ j, j < c * 2 → (w.cell? ⟨g, j, none⟩).isSome = true := fun j hj => by rw [hblk.cell, Array.getElem?_eq_getElem (by omega)]; rfl
  have hfz : ∀ j, w.frozen? ⟨g, j, none⟩ = false := fun j => hblk.frozen j
  have hdl : ((tmL l).drop (i * 2)).length = (l.length - i) * 2 := by rw [List.length_drop, tmL_length]; omega
  have hov : ∀ lb cb, (callFunc 57 #[.slice (some ⟨vb, 0, none⟩) 1 1, .slice (some ⟨g, (i + 1) * 2, none⟩) lb cb]).run Try.prog w = .ok (.value (.bool false)) w := fun lb cb => by
    rw [run_callFunc_extern Try.func57 (by kernel_rfl) (by kernel_rfl) (by kernel_rfl) (e := Extern.SlicesOverlaps.overlaps #[38, 38] #[4]) (by kernel_rfl),
      Lib.run_overlaps_apart w 38 4 46 Try.underlying38 2 Try.sizeOf46 ⟨vb, 0, none⟩ ⟨g, (i + 1) * 2, none⟩ 1 1 lb cb hvg 46 46 2 (c * 2)
        (by unfold Blk at hv; simp [World.shape?, hv]) (by simp [World.shape?, hg0, hs0]) (by omega) (hv.frozen 0) (hv.frozen 2)]
    rfl
  -- the first copy, then the second
  have hcp1 : ∀ ty dc sc, (Builtin.copy_ #[38, 38] ty #[.slice (some ⟨g, (i + 1) * 2, none⟩) (l.length - i) dc, .slice (some ⟨g, i * 2, none⟩) (l.length + 1 - i) sc]).run Try.prog w.drew = .ok (goInt (Nat.min (l.length + 1 - i) (l.length - i))) (w.drew.setCells g ((i + 1) * 2) ((tmL l).drop (i * 2))) := fun ty dc sc =>
    run_copy_k w.drew _ _ ty 46 2 g ((i + 1) * 2) (l.length - i) dc ⟨g, i * 2, none⟩ (l.length + 1 - i) sc ((tmL l).drop (i * 2)) Try.underlying38 tm_size
      (by rw [hdl]; simp only [Nat.min_def]; split <;> omega)
      (fun j v hj => by rw [Addr.add_lit]; exact hold (i * 2 + j) v (by rwa [List.getElem?_drop] at hj))
      (fun j hj => hsome _ (by rw [hdl] at hj; omega)) (fun j _ => hfz _) (fun v hv => tmL_one l v (List.mem_of_mem_drop hv))
  obtain ⟨W1, hW1⟩ : ∃ W1, W1 = w.drew.setCells g ((i + 1) * 2) ((tmL l).drop (i * 2)) := ⟨_, rfl⟩
  have hs1 : ∀ j, j < c * 2 → (W1.cell? ⟨g, j, none⟩).isSome = true := fun j hj => by
    rw [hW1]
    exact isSome_set (w := w.drew) (fun j hj => hsome _ (by rw [hdl] at hj; omega)) _ (hsome j hj)
  have hcp2 : ∀ ty dc, (Builtin.copy_ #[38, 38] ty #[.slice (some ⟨g, i * 2, none⟩) (l.length + 1 - i) dc, .slice (some ⟨vb, 0, none⟩) 1 1]).run Try.prog W1 = .ok (goInt (Nat.min 1 (l.length + 1 - i))) (W1.setCells g (i * 2) x.cells) := fun ty dc =>
    run_copy_k W1 _ _ ty 46 2 g (i * 2) (l.length + 1 - i) dc ⟨vb, 0, none⟩ 1 1 x.cells Try.underlying38 tm_size
      (by simp only [Nat.min_def]; split <;> simp [Tm.cells] <;> omega)
      (fun j v hj => by
        rw [Addr.add_lit, Nat.zero_add, hW1, World.cell?_setCells_out g _ _ _ _ (fun h _ => absurd h hvg)]
        exact (hv.drew.cell j).trans (by simpa [Tm.cells] using hj))
      (fun j hj => hs1 _ (by simp [Tm.cells] at hj; omega)) (fun j _ => by rw [hW1, World.frozen?_setCells]; exact hfz _) (fun v hv => by simp [Tm.cells] at hv; rcases hv with rfl | rfl <;> rfl)
  -- what lies there then
  have hfin : OwnT (W1.setCells g (i * 2) x.cells) base (some ⟨g, 0, none⟩) c (insT l i x) := by
    obtain ⟨c1, h1, z1⟩ := setCells_blk g ((tmL l).drop (i * 2)) ((i + 1) * 2) w.drew cur hg0
    rw [← hW1] at h1
    obtain ⟨c2, h2, z2⟩ := setCells_blk g x.cells (i * 2) W1 c1 h1
    refine own_of_cells h2 hb0 (by omega) (by rw [insT_length l i x (by omega)]; exact hroom) hm0 (by rw [tmL_length]) (fun j u hu => ?_)
    rcases ins_cell (by omega) hu with ⟨q1, q2⟩ | ⟨q1, q2, q3⟩ | ⟨q1, q2⟩
    · rw [World.cell?_setCells_out g _ _ _ _ (fun _ _ => Or.inl q1), hW1, World.cell?_setCells_out g _ _ _ _ (fun _ _ => Or.inl (by show j < _; omega))]
      exact hold j u q2
    · have hlt := (List.getElem?_eq_some_iff.1 q3).1
      have := World.cell?_setCells_in g x.cells (i * 2) W1 (fun j hj => hs1 _ (by simp [Tm.cells] at hj; omega)) (j - i * 2) hlt
      rw [show i * 2 + (j - i * 2) = j by omega] at this
      rw [this, ← (List.getElem?_eq_some_iff.1 q3).2]
    · have hlt := (List.getElem?_eq_some_iff.1 q2).1
      have := World.cell?_setCells_in g ((tmL l).drop (i * 2)) ((i + 1) * 2) w.drew (fun j hj => hsome _ (by rw [hdl] at hj; omega)) (j - (i + 1) * 2) hlt
      rw [show (i + 1) * 2 + (j - (i + 1) * 2) = j by omega] at this
      rw [World.cell?_setCells_out g _ _ _ _ (fun _ _ => Or.inr (by show i * 2 + _ ≤ j; simp [Tm.cells]; omega)), hW1, this, ← (List.getElem?_eq_some_iff.1 q2).2]
  have hgrow : w.grownBy (W1.setCells g (i * 2) x.cells) (some g) := by
    have t1 : Touch (· = g) w.drew W1 := by rw [hW1]; exact setCells_touch g _ _ _
    have t2 := t1.trans (setCells_touch g x.cells (i * 2) W1)
    exact ⟨t2.os, t2.tape, t2.output, t2.size, fun k hk hne => t2.block k hk (fun e => hne (by rw [e]))⟩
  rw [insT_length l i x (by omega)]
  have hm1 : c ≤ 9223372036854775807 := by unfold maxLen at hm0; omega
  obtain ⟨n, hnn⟩ : ∃ n, l.length = n := ⟨_, rfl⟩
  rw [hnn] at hcp1 hcp2 hi hroom hn
  rw [hnn]
  have HFIN := Lib.hid (And.intro hfin hgrow)
  have HC1 := Lib.hid hcp1
  have HC2 := Lib.hid hcp2
  have HW1 := Lib.hid hW1
  have w1 : IntKind.i64.wrap ((i : Int) + 1) = (i : Int) + 1 := IntWalk.i64_in _ (by omega)
  have w2 : IntKind.i64.wrap ((n : Int) + 1) = (n : Int) + 1 := IntWalk.i64_in _ (by omega)
  have b1 : (0 : Int) ≤ i := by omega
  have b2 : ¬ ((i : Int) = (n : Int)) := by omega
  have b3 : ((i : Int) == (n : Int)) = false := by rw [beq_eq_false_iff_ne]; exact b2
  have b4 : ¬ ((c : Int) < (n : Int) + 1) := by omega
  have b5 : (i : Int) ≤ n := by omega
  have b6 : ¬ (c = i) := by omega
  have b7 : ¬ (c = i + 1) := by omega
  have b8 : (0 : Int) ≤ (i : Int) + 1 := by omega
  have b9 : (i : Int) + 1 ≤ (n : Int) + 1 := by omega
  have b10 : ((i : Int) + 1).toNat = i + 1 := by omega
  have b11 : ((n : Int) + 1).toNat = n + 1 := by omega
  have b12 : (n : Int) + 1 ≤ c := by omega
  have b13 : (i : Int) ≤ (n : Int) + 1 := by omega
  clear hcp1 hcp2 hfin hgrow hW1 h hn hv hvg hnn hg0 hb0 hm0 hs0 hblk hold hsome hfz hdl hs1 hroom hi
  go_enter Try.func40, Try.ntmps40
  go_wp2_with (simp only [hov])
  clear hov
  have hc1 := HC1.out 3 (c - (i + 1)) (c - i)
  rw [← HW1.out] at hc1
  go_region_law (fail)
  go_wp2_with (with_reducible refine wpList_copy_run2 _ rfl (.tmp 80) (.tmp 81) 38 38 rfl _ _ rfl rfl (HC2.out _ _) ?_)
  go_ret
  exact ⟨rfl, HFIN.out.1, HFIN.out.2⟩
end Go.Proofs.Ytogghcbijdljkaa
