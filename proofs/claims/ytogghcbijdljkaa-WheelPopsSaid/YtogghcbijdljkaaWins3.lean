/- slices.Insert of one timer among others, where there is no room; and wherever. Its condition: fewer than 2^20 timers. -/
import Derived.Test.YtogghcbijdljkaaWins2
namespace Go.Proofs.Ytogghcbijdljkaa
open Go.RowKit
set_option maxRecDepth 100000

theorem zero_size (k : Nat) : (Builtin.zeroCells (Value.agg #[.int .i64 0, .int .i64 0]).cells k).size = k * 2 := by
  simp [Builtin.zeroCells, Value.cells]
set_option maxRecDepth 100000 in
set_option maxHeartbeats 4000000 in
theorem insert_grow (g c i vb : Nat) (l : List Tm) (x : Tm) (base : Nat) (w : World) (h : OwnT w base (some ⟨g, 0, none⟩) c l) (hn : l.length ≤ 1048000) (hv : Blk w vb 46 #[.int .i64 x.due, .int .i64 x.key]) (hi : i < l.length) (hroom : c < l.length + 1) (hbase : base ≤ w.heap.size) :
    Calls Try.prog 40 #[.slice (some ⟨g, 0, none⟩) l.length c, .int .i64 (i : Int), .slice (some ⟨vb, 0, none⟩) 1 1] w fun e w' =>
      ∃ a' c', e = .returned (.slice a' (insT l i x).length c') ∧ OwnT w' base a' c' (insT l i x) ∧ Below w.heap.size w w' ∧ (Value.slice a' 0 0).ownBlock = some w.heap.size := by
  have hcap := (own_cap h).1
  have hgl := (World.ownsRow.lt h g rfl).2
  have hold : ∀ j u, (tmL l)[j]? = some u → w.cell? ⟨g, j, none⟩ = some u := fun j u hu => by
    have := h.cells (g := g) rfl j u hu
    rwa [Addr.add_lit, Nat.zero_add] at this
  have hdl : ((tmL l).drop (i * 2)).length = (l.length - i) * 2 := by rw [List.length_drop, tmL_length]; omega
  obtain ⟨i0, hi0, hz0, hz1, hz2⟩ := info_parts tm_info
  have hfc : (Builtin.firstCells i0.size i (.slice (some ⟨g, 0, none⟩) i c)).run Try.prog w.drew = .ok (tmL (l.take i)).toArray w.drew := by
    rw [hz1]
    exact run_firstCells_some w.drew 2 i ⟨g, 0, none⟩ i c (tmL (l.take i)) (by rw [tmL_length, List.length_take]; omega) (fun j v hj => by
      rw [Addr.add_lit, Nat.zero_add]
      rw [tmL_take, List.getElem?_take] at hj
      split at hj
      · exact hold j v hj
      · cases hj)
  have hik : i + (l.length + 1 - i) = l.length + 1 := by omega
  have hrz : ∀ ty, (Builtin.append_ #[38, 3] ty #[.slice (some ⟨g, 0, none⟩) i c, .int .i64 ((l.length : Int) + 1 - (i : Int))]).run Try.prog w =
      .ok (.slice (some ⟨w.heap.size, 0, none⟩) (l.length + 1) (grownCap w (l.length + 1) c 46)) (w.drew.alloc (.cells ((tmL (l.take i)).toArray ++ Builtin.zeroCells (Value.agg #[.int .i64 0, .int .i64 0]).cells (l.length + 1 - i) ++ Builtin.zeroCells (Value.agg #[.int .i64 0, .int .i64 0]).cells (grownCap w (l.length + 1) c 46 - (l.length + 1))) 46)) := fun ty => by
    have h := Lib.run_append_grow_zeros w 38 3 ty 46 i0 _ .i64 .i64 Try.underlying38 Try.underlying3 hi0 hz0 (some ⟨g, 0, none⟩) i c _ hfc (l.length + 1 - i) (by omega) (by omega) (by omega) (by omega) (by rw [hz2]; omega) (by rw [hz2, hik]; exact growslice_fits hroom (by omega))
    rw [hik] at h
    rw [show (l.length : Int) + 1 - (i : Int) = ((l.length + 1 - i : Nat) : Int) by omega]
    exact h
  obtain ⟨G, hG⟩ : ∃ G, G = grownCap w (l.length + 1) c 46 := ⟨_, rfl⟩
  obtain ⟨ROW, hROW⟩ : ∃ ROW : Array Value, ROW = (tmL (l.take i)).toArray ++ Builtin.zeroCells (Value.agg #[.int .i64 0, .int .i64 0]).cells (l.length + 1 - i) ++ Builtin.zeroCells (Value.agg #[.int .i64 0, .int .i64 0]).cells (G - (l.length + 1)) := ⟨_, rfl⟩
  rw [← hG, ← hROW] at hrz
  have hGn : l.length + 1 ≤ G := by rw [hG]; exact grownCap_ge w _ _ _
  have hGm : G ≤ maxLen := by rw [hG]; exact grownCap_le_maxLen w _ _ _ (by unfold maxLen; omega)
  have hRs : ROW.size = G * 2 := by
    rw [hROW, Array.size_append, Array.size_append, zero_size, zero_size]
    simp only [List.size_toArray, tmL_length, List.length_take]
    omega
  have hRold : ∀ j u, j < i * 2 → (tmL l)[j]? = some u → ROW[j]? = some u := fun j u hj hu => by
    rw [hROW, Array.getElem?_append_left (by simp only [Array.size_append, List.size_toArray, tmL_length, List.length_take]; omega), Array.getElem?_append_left (by simp only [List.size_toArray, tmL_length, List.length_take]; omega)]
    rw [List.getElem?_toArray, tmL_take, List.getElem?_take, if_pos hj]
    exact hu
  have hnb := Blk.new w 46 ROW
  have hvb := hv.alloc (.cells ROW 46)
  obtain ⟨N, hN⟩ : ∃ N, w.heap.size = N := ⟨_, rfl⟩
  have hoW : ∀ j u, (tmL l)[j]? = some u → (w.alloc (.cells ROW 46)).cell? ⟨g, j, none⟩ = some u := fun j u hu => (World.cell?_of_block (Below.heap_alloc w _ g hgl)).trans (hold j u hu)
  have bW := (Below.refl w.heap.size w).alloc (Nat.le_refl _) (.cells ROW 46)
  rw [hN] at hnb hrz hgl hbase
  obtain ⟨W1, hW1⟩ : ∃ W1, w.alloc (.cells ROW 46) = W1 := ⟨_, rfl⟩
  rw [hW1] at hnb hvb hoW bW
  have hW1d : w.drew.alloc (.cells ROW 46) = W1.drew := by rw [← hW1]; rfl
  rw [hW1d] at hrz
  have hNs : ∀ j, j < (l.length + 1) * 2 → (W1.drew.cell? ⟨N, j, none⟩).isSome = true := fun j hj => by rw [hnb.drew.cell, Array.getElem?_eq_getElem (by omega)]; rfl
  have hvN : vb ≠ N := by have := hv.lt; omega
  have hcpA : ∀ ty dc, (Builtin.copy_ #[38, 38] ty #[.slice (some ⟨N, i * 2, none⟩) (l.length + 1 - i) dc, .slice (some ⟨vb, 0, none⟩) 1 1]).run Try.prog W1.drew = .ok (goInt (Nat.min 1 (l.length + 1 - i))) (W1.drew.setCells N (i * 2) x.cells) := fun ty dc =>
    run_copy_k W1.drew _ _ ty 46 2 N (i * 2) (l.length + 1 - i) dc ⟨vb, 0, none⟩ 1 1 x.cells Try.underlying38 tm_size
      (by simp only [Nat.min_def]; split <;> simp [Tm.cells] <;> omega)
      (fun j v hj => by
        rw [Addr.add_lit, Nat.zero_add]
        exact (hvb.drew.cell j).trans (by simpa [Tm.cells] using hj))
      (fun j hj => hNs _ (by simp [Tm.cells] at hj; omega)) (fun j _ => hnb.frozen _) (fun v hv => by simp [Tm.cells] at hv; rcases hv with rfl | rfl <;> rfl)
  obtain ⟨W2, hW2⟩ : ∃ W2, W2 = W1.drew.setCells N (i * 2) x.cells := ⟨_, rfl⟩
  have hN2 : ∀ j, j < (l.length + 1) * 2 → (W2.cell? ⟨N, j, none⟩).isSome = true := fun j hj => by
    rw [hW2]
    exact isSome_set (w := W1.drew) (fun j hj => hNs _ (by simp [Tm.cells] at hj; omega)) _ (hNs j hj)
  have hcpB : ∀ ty dc sc, (Builtin.copy_ #[38, 38] ty #[.slice (some ⟨N, (i + 1) * 2, none⟩) (l.length - i) dc, .slice (some ⟨g, i * 2, none⟩) (l.length - i) sc]).run Try.prog W2.drew = .ok (goInt (Nat.min (l.length - i) (l.length - i))) (W2.drew.setCells N ((i + 1) * 2) ((tmL l).drop (i * 2))) := fun ty dc sc =>
    run_copy_k W2.drew _ _ ty 46 2 N ((i + 1) * 2) (l.length - i) dc ⟨g, i * 2, none⟩ (l.length - i) sc ((tmL l).drop (i * 2)) Try.underlying38 tm_size
      (by rw [hdl]; simp only [Nat.min_def]; split <;> omega)
      (fun j v hj => by
        rw [Addr.add_lit]
        show W2.cell? _ = _
        rw [hW2, World.cell?_setCells_out N _ _ _ _ (fun h _ => absurd h (by show g ≠ N; omega))]
        exact hoW (i * 2 + j) v (by rwa [List.getElem?_drop] at hj))
      (fun j hj => hN2 _ (by rw [hdl] at hj; omega)) (fun j _ => by show W2.frozen? _ = _; rw [hW2, World.frozen?_setCells]; exact hnb.frozen _) (fun v hv => tmL_one l v (List.mem_of_mem_drop hv))
  obtain ⟨W3, hW3⟩ : ∃ W3, W3 = W2.drew.setCells N ((i + 1) * 2) ((tmL l).drop (i * 2)) := ⟨_, rfl⟩
  have hfin : OwnT W3 base (some ⟨N, 0, none⟩) G (insT l i x) := by
    obtain ⟨c1, h1, z1⟩ := setCells_blk N x.cells (i * 2) W1.drew ROW hnb
    rw [← hW2] at h1
    obtain ⟨c2, h2, z2⟩ := setCells_blk N ((tmL l).drop (i * 2)) ((i + 1) * 2) W2.drew c1 h1
    rw [← hW3] at h2
    refine own_of_cells h2 hbase (by omega) (by rw [insT_length l i x (by omega)]; exact hGn) hGm (by rw [tmL_length]) (fun j u hu => ?_)
    rcases ins_cell (by omega) hu with ⟨q1, q2⟩ | ⟨q1, q2, q3⟩ | ⟨q1, q2⟩
    · rw [hW3, World.cell?_setCells_out N _ _ _ _ (fun _ _ => Or.inl (by show j < _; omega))]
      show W2.cell? _ = _
      rw [hW2, World.cell?_setCells_out N _ _ _ _ (fun _ _ => Or.inl q1)]
      exact (hnb.drew.cell j).trans (hRold j u q1 q2)
    · have hlt := (List.getElem?_eq_some_iff.1 q3).1
      have := World.cell?_setCells_in N x.cells (i * 2) W1.drew (fun j hj => hNs _ (by simp [Tm.cells] at hj; omega)) (j - i * 2) hlt
      rw [show i * 2 + (j - i * 2) = j by omega] at this
      rw [hW3, World.cell?_setCells_out N _ _ _ _ (fun _ _ => Or.inl (by show j < _; omega))]
      show W2.cell? _ = _
      rw [hW2, this, ← (List.getElem?_eq_some_iff.1 q3).2]
    · have hlt := (List.getElem?_eq_some_iff.1 q2).1
      have := World.cell?_setCells_in N ((tmL l).drop (i * 2)) ((i + 1) * 2) W2.drew (fun j hj => hN2 _ (by rw [hdl] at hj; omega)) (j - (i + 1) * 2) hlt
      rw [show (i + 1) * 2 + (j - (i + 1) * 2) = j by omega] at this
      rw [hW3, this, ← (List.getElem?_eq_some_iff.1 q2).2]
  have hbel : Below N w W3 := by
    have t1 : Touch (· = N) W1.drew W2 := by rw [hW2]; exact setCells_touch N _ _ _
    have t2 : Touch (· = N) W2.drew W3 := by rw [hW3]; exact setCells_touch N _ _ _
    have t3 : Touch (· = N) W1 W3 := ⟨t2.os.trans t1.os, t2.tape.trans t1.tape, t2.output.trans t1.output, Nat.le_trans t1.size t2.size, fun k hk hp => (t2.block k (Nat.lt_of_lt_of_le hk t1.size) hp).trans (t1.block k hk hp)⟩
    rw [hN] at bW
    exact bW.trans (t3.below (by have := bW.size; omega) (fun k hk => by omega))
  rw [insT_length l i x (by omega)]
  obtain ⟨n, hnn⟩ : ∃ n, l.length = n := ⟨_, rfl⟩
  rw [hnn] at hrz hcpA hcpB hi hroom hcap hn hGn
  rw [hnn, hN]
  have HFIN := Lib.hid (And.intro hfin hbel)
  have HRZ := Lib.hid hrz
  have HCA := Lib.hid hcpA
  have HCB := Lib.hid hcpB
  have HW2 := Lib.hid hW2
  have HW3 := Lib.hid hW3
  have hcA := hcpA 3 (G - i)
  rw [← hW2] at hcA
  have hcB := hcpB 3 (G - (i + 1)) (c - i)
  rw [← hW3] at hcB
  have w1 : IntKind.i64.wrap ((i : Int) + 1) = (i : Int) + 1 := IntWalk.i64_in _ (by omega)
  have w2 : IntKind.i64.wrap ((n : Int) + 1) = (n : Int) + 1 := IntWalk.i64_in _ (by omega)
  have hG63 : G ≤ 9223372036854775807 := by unfold maxLen at hGm; omega
  have b1 : (0 : Int) ≤ i := by omega
  have b2 : ¬ ((i : Int) = (n : Int)) := by omega
  have b3 : ((i : Int) == (n : Int)) = false := by rw [beq_eq_false_iff_ne]; exact b2
  have b4 : (c : Int) < (n : Int) + 1 := by omega
  have b5 : (i : Int) ≤ n := by omega
  have b6 : ¬ (c = i) := by omega
  have b7 : ¬ (G = i) := by omega
  have b7' : ¬ (G = i + 1) := by omega
  have b8 : (0 : Int) ≤ (i : Int) + 1 := by omega
  have b9 : (i : Int) + 1 ≤ (n : Int) + 1 := by omega
  have b10 : ((i : Int) + 1).toNat = i + 1 := by omega
  have b11 : (i : Int) ≤ (n : Int) + 1 := by omega
  have b12 : (i : Int) ≤ c := by omega
  have b13 : (0 : Int) ≤ (n : Int) + 1 - i := by omega
  have w4 : IntKind.i64.wrap ((n : Int) + 1 - (i : Int)) = (n : Int) + 1 - (i : Int) := IntWalk.i64_in _ (by omega)
  have w3 : wrap64 ((n : Int) + 1 - (i : Int)) = (n : Int) + 1 - (i : Int) := IntWalk.wrap64_in _ (by omega)
  clear hrz hcpA hcpB hfin hbel hW1 hW1d hW2 hW3 h hn hv hvb hnb hoW bW hNs hN2 hvN hnn hold hdl hfc hik hG hROW hRs hRold hGm hi0 hz0 hz1 hz2 hroom hi hcap hgl hbase hN hGn
  go_enter Try.func40, Try.ntmps40
  go_wp2_with (at_builtin; refine Lib.wpList_append_run _ rfl _ _ _ _ rfl _ _ rfl rfl _ _ (HRZ.out 38) ?_)
  go_region_law (fail)
  go_wp2_with fail
  go_ret
  exact ⟨_, _, rfl, HFIN.out.1, HFIN.out.2, rfl⟩
theorem grown_below {w w' : World} {r : Option Nat} (h : Below w.heap.size w w') : w.grownBy w' r := ⟨h.os, h.tape, h.output, h.size, fun k hk _ => h.block k hk⟩
/-- Wherever. -/
theorem insert_any (A : Option Addr) (c i vb : Nat) (l : List Tm) (x : Tm) (base : Nat) (w : World) (h : OwnT w base A c l) (hn : l.length ≤ 1048000) (hv : Blk w vb 46 #[.int .i64 x.due, .int .i64 x.key]) (hvA : (Value.slice A l.length c).ownBlock ≠ some vb) (hi : i ≤ l.length) (hbase : base ≤ w.heap.size) :
    Calls Try.prog 40 #[.slice A l.length c, .int .i64 (i : Int), .slice (some ⟨vb, 0, none⟩) 1 1] w fun e w' =>
      ∃ a' c', e = .returned (.slice a' (insT l i x).length c') ∧ OwnT w' base a' c' (insT l i x) ∧ w.grownBy w' (Value.slice A l.length c).ownBlock ∧ ((Value.slice a' 0 0).ownBlock = (Value.slice A 0 0).ownBlock ∨ ∃ k, w.heap.size ≤ k ∧ (Value.slice a' 0 0).ownBlock = some k) := by
  by_cases he : i = l.length
  · subst he
    exact insert_end A c l x vb base w h hn hv hbase
  · obtain ⟨g, cap, e, _, _⟩ := h.form (show 0 < l.length by omega)
    injection e with e1 _ e3
    subst e1 e3
    by_cases hr : l.length + 1 ≤ c
    · refine (insert_room g c i vb l x base w h hn hv (fun e => hvA (by rw [e]; rfl)) (by omega) hr).mono fun e w' hh => ?_
      exact ⟨_, _, hh.1, hh.2.1, hh.2.2, .inl rfl⟩
    · refine (insert_grow g c i vb l x base w h hn hv (by omega) (by omega) hbase).mono fun e w' hh => ?_
      obtain ⟨a', c', h1, h2, h3, h4⟩ := hh
      exact ⟨a', c', h1, h2, grown_below h3, .inr ⟨_, Nat.le_refl _, h4⟩⟩
end Go.Proofs.Ytogghcbijdljkaa
