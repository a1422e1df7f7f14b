/- slices.Delete of one place out of a row of one's own, in place. Its condition: fewer than 2^20 places. -/
import Derived.Test.YtnhnllkcnpbgoaaFgDel
import Derived.ArgAppend
namespace Go.Proofs.Ytnhnllkcnpbgoaa
open Go.RowKit
set_option maxRecDepth 100000

theorem rm_cell {l : List Pl} {i : Nat} (hi : i < l.length) {j : Nat} {u : Value} (h : (plL (rmP l i))[j]? = some u) :
    (j < i * 5 ∧ (plL l)[j]? = some u) ∨ (i * 5 ≤ j ∧ j < (l.length - 1) * 5 ∧ (plL (l.drop (i + 1)))[j - i * 5]? = some u) := by
  have hl : (plL (l.take i)).length = i * 5 := by rw [plL_len, List.length_take]; omega
  have hlt := (List.getElem?_eq_some_iff.1 h).1
  rw [plL_len, rm_len hi] at hlt
  unfold rmP at h
  rw [plL_app] at h
  by_cases h1 : j < i * 5
  · rw [List.getElem?_append_left (by omega), plL_take, List.getElem?_take, if_pos h1] at h
    exact .inl ⟨h1, h⟩
  · rw [List.getElem?_append_right (by omega), hl] at h
    exact .inr ⟨by omega, hlt, h⟩
set_option maxHeartbeats 4000000 in
theorem delete_one (g c i : Nat) (l : List Pl) (base : Nat) (w : World) (h : OwnL 49 w base (some ⟨g, 0, none⟩) c l) (hn : l.length ≤ 1048000) (hi : i < l.length) :
    Calls Try.prog 38 #[.slice (some ⟨g, 0, none⟩) l.length c, .int .i64 (i : Int), .int .i64 ((i : Int) + 1)] w fun e w' =>
      e = .returned (.slice (some ⟨g, 0, none⟩) (rmP l i).length c) ∧ OwnL 49 w' base (some ⟨g, 0, none⟩) c (rmP l i) ∧ Touch (· = g) w w' := by
  obtain ⟨cur, hg0, hb0, hm0, hs0, hnc⟩ : ∃ cur, w.heap[g]? = some (.cells cur 49 (0, 0)) ∧ base ≤ g ∧ c ≤ maxLen ∧ cur.size = c * 5 ∧ l.length ≤ c := by
    rcases h.2 with ⟨e0, _⟩ | ⟨g', cap', cur, e0, hb, hg, hn', hm, hs, ht⟩
    · cases e0
    · injection e0 with e1 _ e3
      injection e1 with e1
      injection e1 with e1
      subst e1 e3
      exact ⟨cur, hg, hb, hm, hs, hn'⟩
  have hblk : Blk w g 49 cur := hg0
  have hold : ∀ j u, (plL l)[j]? = some u → w.cell? ⟨g, j, none⟩ = some u := fun j u hu => by
    have := h.cells (g := g) rfl j u hu
    rwa [Addr.add_lit, Nat.zero_add] at this
  have hsome : ∀ j, j < c * 5 → (w.cell? ⟨g, j, none⟩).isSome = true := fun j hj => by rw [hblk.cell, Array.getElem?_eq_getElem (by omega)]; rfl
  have hdl : (plL (l.drop (i + 1))).length = (l.length - (i + 1)) * 5 := by rw [plL_len, List.length_drop]
  obtain ⟨i0, hi0, hz0, hz1, hz2⟩ := info_parts fpl_info
  obtain ⟨W1, hW1⟩ : ∃ W1, W1 = w.drew.setCells g (i * 5) (plL (l.drop (i + 1))) := ⟨_, rfl⟩
  have hap : ∀ ty off cc, off = (i + 1) * 5 ∨ l.length - (i + 1) = 0 → (Builtin.append_ #[25, 25] ty #[.slice (some ⟨g, 0, none⟩) i c, .slice (some ⟨g, off, none⟩) (l.length - (i + 1)) cc]).run Try.prog w.drew = .ok (.slice (some ⟨g, 0, none⟩) (l.length - 1) c) W1 := fun ty off cc hoff => by
    have := run_append_room_cells (P := Try.prog) w.drew 25 ty 49 i0 Try.underlying25 hi0 g 0 i c ⟨g, off, none⟩ (l.length - (i + 1)) cc (plL (l.drop (i + 1))) (by rw [hdl, hz1])
      (fun j u hu => by
        have hj := (List.getElem?_eq_some_iff.1 hu).1
        rw [hdl] at hj
        obtain rfl : off = (i + 1) * 5 := by rcases hoff with e | e; exact e; omega
        rw [Addr.add_lit]
        refine hold _ u ?_
        rw [plL_drop, List.getElem?_drop] at hu
        exact hu)
      (plL_one _) (by omega)
      (fun j hj => by rw [hz1]; exact hsome _ (by rw [hdl] at hj; omega)) (fun j _ => hblk.frozen _)
    rw [this, hz1, Nat.zero_add, ← hW1, show i + (l.length - (i + 1)) = l.length - 1 by omega]
  have hs1 : ∀ j, j < c * 5 → (W1.cell? ⟨g, j, none⟩).isSome = true := fun j hj => by
    rw [hW1]
    exact isSome_set (w := w.drew) (fun j hj => hsome _ (by rw [hdl] at hj; omega)) _ (hsome j hj)
  have hcl : ∀ ty, (Builtin.clear_ #[25] ty #[.slice (some ⟨g, (l.length - 1) * 5, none⟩) 1 (c - (l.length - 1))]).run Try.prog W1 = .ok (.tuple #[]) (W1.setCells g ((l.length - 1) * 5) (zeroF 1)) := fun ty =>
    run_clear_f W1 ty g ((l.length - 1) * 5) 1 (c - (l.length - 1)) (by omega) (fun q hq => hs1 _ (by omega)) (fun q _ => by rw [hW1, World.frozen?_setCells]; exact hblk.frozen _)
  have hfin : OwnL 49 (W1.setCells g ((l.length - 1) * 5) (zeroF 1)) base (some ⟨g, 0, none⟩) c (rmP l i) := by
    obtain ⟨c1, h1, z1⟩ := setCells_blk g (plL (l.drop (i + 1))) (i * 5) w.drew cur hg0
    rw [← hW1] at h1
    obtain ⟨c2, h2, z2⟩ := setCells_blk g (zeroF 1) ((l.length - 1) * 5) W1 c1 h1
    refine own_of_cells h2 hb0 (by omega) (by rw [rm_len hi]; omega) hm0 (by rw [plL_len]) (fun j u hu => ?_)
    rcases rm_cell hi hu with ⟨q1, q2⟩ | ⟨q1, q2, q3⟩
    · rw [World.cell?_setCells_out g _ _ _ _ (fun _ _ => Or.inl (by show j < _; omega)), hW1, World.cell?_setCells_out g _ _ _ _ (fun _ _ => Or.inl q1)]
      exact hold j u q2
    · rw [World.cell?_setCells_out g _ _ _ _ (fun _ _ => Or.inl q2), hW1]
      have hlt := (List.getElem?_eq_some_iff.1 q3).1
      have := World.cell?_setCells_in g (plL (l.drop (i + 1))) (i * 5) w.drew (fun j hj => hsome _ (by rw [hdl] at hj; omega)) (j - i * 5) hlt
      rw [show i * 5 + (j - i * 5) = j by omega] at this
      rw [this, ← (List.getElem?_eq_some_iff.1 q3).2]
  have htou : Touch (· = g) w (W1.setCells g ((l.length - 1) * 5) (zeroF 1)) := by
    have t1 : Touch (· = g) w.drew W1 := by rw [hW1]; exact setCells_touch g _ _ _
    have t2 := t1.trans (setCells_touch g (zeroF 1) ((l.length - 1) * 5) W1)
    exact ⟨t2.os, t2.tape, t2.output, t2.size, t2.block⟩
  rw [rm_len hi]
  obtain ⟨n, hnn⟩ : ∃ n, l.length = n := ⟨_, rfl⟩
  rw [hnn] at hap hcl hi hnc hfin htou hn
  rw [hnn]
  have HFIN := Lib.hid (And.intro hfin htou)
  have HAP := Lib.hid hap
  have HCL := Lib.hid hcl
  obtain ⟨m, rfl⟩ : ∃ m, n = m + 1 := ⟨n - 1, by omega⟩
  rw [Nat.add_sub_cancel] at HFIN HCL
  have HAP2 := Lib.hid (show ∀ ty off cc, off = (i + 1) * 5 ∨ m - i = 0 → (Builtin.append_ #[25, 25] ty #[.slice (some ⟨g, 0, none⟩) i c, .slice (some ⟨g, off, none⟩) (m - i) cc]).run Try.prog w.drew = .ok (.slice (some ⟨g, 0, none⟩) m c) W1 from fun ty off cc ho => by
    have := HAP.out ty off cc (by omega)
    rw [show m + 1 - (i + 1) = m - i by omega, Nat.add_sub_cancel] at this
    exact this)
  have w1 : IntKind.i64.wrap ((i : Int) + 1) = (i : Int) + 1 := IntWalk.i64_in _ (by omega)
  have b0 : (0 : Int) ≤ i := by omega
  have b1 : (0 : Int) ≤ (i : Int) + 1 := by omega
  have b2 : ((i : Int) == (i : Int) + 1) = false := by rw [beq_eq_false_iff_ne]; omega
  have b3 : (i : Int) ≤ (i : Int) + 1 := by omega
  have b4 : (i : Int) + 1 ≤ (m : Int) + 1 := by omega
  have b5 : (m : Int) + 1 ≤ c := by omega
  have b6 : ((i : Int) + 1).toNat = i + 1 := by omega
  have b7 : ((m : Int) + 1).toNat = m + 1 := by omega
  have b8 : (m : Int) ≤ (m : Int) + 1 := by omega
  have b9 : (0 : Int) ≤ m := by omega
  have b10 : (i : Int) ≤ c := by omega
  have b11 : ¬ (c = m) := by omega
  have b12 : (i : Int) ≤ (m : Int) + 1 := by omega
  have b13 : ¬ ((i : Int) = (i : Int) + 1) := by omega
  have c1 : m + 1 - (i + 1) = m - i := by omega
  have c2 : m + 1 - m = 1 := by omega
  rw [Nat.add_sub_cancel]
  clear hap hcl hfin htou HAP h hn hblk hold hsome hdl hs1 hg0 hb0 hm0 hs0 hnn hW1 hi0 hz0 hz1 hz2
  by_cases hc : c = i + 1
  · obtain rfl : m = i := by omega
    have hr := HAP2.out 25 0 0 (.inr (by omega))
    have HR := Lib.hid hr
    have c4 : m + 1 - (m + 1) = 0 := by omega
    have hcl := HCL.out
    subst hc
    rw [show m + 1 - m = 1 by omega] at hcl
    clear hi hnc hr
    go_enter Try.func38, Try.ntmps38
    go_wp2_with fail
    rw [show m - m = 0 by omega] at HR
    go_region_law (refine step_append_run rfl (.tmp 22) (.tmp 25) 25 25 rfl _ _ rfl rfl HR.out ?_)
    go_wp2_with (simp only [hcl])
    go_ret
    exact ⟨rfl, HFIN.out.1, HFIN.out.2⟩
  · have hr := HAP2.out 25 ((i + 1) * 5) (c - (i + 1)) (.inl rfl)
    have HR := Lib.hid hr
    have hcl := HCL.out
    clear hi hnc hr
    go_enter Try.func38, Try.ntmps38
    go_wp2_with fail
    go_region_law (refine step_append_run rfl (.tmp 22) (.tmp 25) 25 25 rfl _ _ rfl rfl HR.out ?_)
    go_wp2_with (simp only [hcl])
    go_ret
    exact ⟨rfl, HFIN.out.1, HFIN.out.2⟩
end Go.Proofs.Ytnhnllkcnpbgoaa
