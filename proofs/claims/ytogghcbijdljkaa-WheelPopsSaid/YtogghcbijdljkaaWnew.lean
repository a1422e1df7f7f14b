/- A new wheel; all timers, in order. Its condition: fewer than 2^20 timers. -/
import Derived.Test.YtogghcbijdljkaaWset
namespace Go.Proofs.Ytogghcbijdljkaa
open Go.RowKit
set_option maxRecDepth 100000

set_option maxHeartbeats 2000000 in
theorem new_any (w : World) :
    Calls Try.prog 14 #[] w fun e w' => e = .returned (.pointer (some ⟨w.heap.size, 0, none⟩)) ∧ WheelAt w' w.heap.size [] ∧ Below w.heap.size w w' ∧ ∀ k, WFoot w' w.heap.size k → k = w.heap.size := by
  go_enter Try.func14, Try.ntmps14
  go_wp2_with fail
  go_ret
  refine ⟨rfl, ⟨⟨none, 0, Blk.new _ _ _, World.ownsRow_nil _ _ _ _⟩, List.Pairwise.nil, by simp⟩, (Below.refl _ w).alloc (Nat.le_refl _) _, fun k hk => ?_⟩
  rcases foot_blk (Blk.new _ _ _) hk with h | h
  · exact h
  · cases h
/-- The library's Clone, of timers of the program's own. -/
theorem clone_any (A : Option Addr) (c : Nat) (l : List Tm) (base : Nat) (w : World) (h : OwnT w base A c l) (hn : l.length ≤ 1048000) :
    Calls Try.prog 45 #[.slice A l.length c] w fun e w' => ∃ A' c', e = .returned (.slice A' l.length c') ∧ OwnT w' w.heap.size A' c' l ∧ Below w.heap.size w w' := by
  rcases h.2 with ⟨e0, n0⟩ | ⟨g, cap, cur, e0, hb, hg, hn', hm, hs, ht⟩
  · injection e0 with e1 e2 e3
    subst e1 e3
    obtain rfl : l = [] := List.eq_nil_of_length_eq_zero n0
    refine (show Calls Try.prog 45 #[.slice none 0 0] w _ from AnyE.slices_Clone_nil (P := Try.prog) layClone 0 0 w).mono fun e w' hh => ?_
    obtain ⟨rfl, rfl⟩ := hh
    exact ⟨none, 0, rfl, World.ownsRow_nil _ _ _ _, Below.refl _ _⟩
  · injection e0 with e1 _ e3
    subst e1 e3
    obtain ⟨i0, hi0, hz0, hz1, hz2⟩ := info_parts tm_info
    have hcon := AnyE.slices_Clone (P := Try.prog) layClone i0 _ 2 16 hi0 hz0 hz1 hz2 rfl (by decide) Try.sizeOf46 g 0 l.length c (tmL l) w (by rw [tmL_length]) (by unfold maxLen; omega) (by omega)
      (fun j u hu => by
        have := h.cells (g := g) rfl j u hu
        rwa [Addr.add_lit] at this) (tmL_one l)
    refine (show Calls Try.prog 45 #[.slice (some ⟨g, 0, none⟩) l.length c] w _ from hcon).mono fun e w' hh => ?_
    obtain ⟨v', rfl, ho, _, hbel⟩ := hh
    obtain ⟨a, c', rfl⟩ := own_slice ho
    exact ⟨a, c', rfl, ho, hbel⟩
set_option maxHeartbeats 4000000 in
theorem all_any (g : Nat) (l : List Tm) (w : World) (h : WheelAt w g l) :
    Calls Try.prog 20 #[.pointer (some ⟨g, 0, none⟩)] w fun e w' => ∃ A c, e = .returned (.slice A l.length c) ∧ OwnT w' w.heap.size A c (sortT l) ∧ Below w.heap.size w w' := by
  have hfew := h.few
  obtain ⟨A, c, hb, ho⟩ := h.row
  have c0 : w.cell? ⟨g, 0, none⟩ = some (.slice A l.length c) := hb.cell 0
  have HC := Lib.hid (clone_any A c l 0 w ho hfew)
  have HF := Lib.hid hfew
  clear h hb ho hfew
  go_enter Try.func20, Try.ntmps20
  go_wp2_with fail
  refine HC.out.mono ?_
  rintro e w1 ⟨A1, c1, rfl, ho1, hb1⟩
  have HS := Lib.hid (sort_any A1 c1 l w.heap.size w1 ho1 (by have := HF.out; omega))
  have HB := Lib.hid (And.intro ho1 hb1)
  clear ho1 hb1 c0
  go_wp2_with fail
  refine HS.out.mono ?_
  rintro e w2 ⟨rfl, ho2, ht⟩
  have hfin : OwnT w2 w.heap.size A1 c1 (sortT l) ∧ Below w.heap.size w w2 :=
    ⟨ho2, HB.out.2.trans (ht.below HB.out.2.size (fun k hk => (World.ownsRow.lt HB.out.1 k hk).1))⟩
  clear ho2 ht
  have HFI := Lib.hid hfin
  clear hfin
  go_wp2_with fail
  go_ret
  exact ⟨A1, c1, rfl, HFI.out.1, HFI.out.2⟩
end Go.Proofs.Ytogghcbijdljkaa
