/- Sums of costs, and ways: cost.Sum and the document's Sum, Own, Through, Offer. No condition but ints' ranges. -/
import Derived.Test.YtadejdhdkkfliaaVbet
import Derived.Laws.Rows
import Derived.Laws.ResultCell
namespace Go.Proofs.Ytadejdhdkkfliaa
open Go.RowKit
set_option maxRecDepth 100000

theorem vec_size : (Try.prog.info? 32).map (·.size) = some 4 := by kernel_rfl
theorem vec_new (w : World) (o : Obj) (cs : Array Value) : Blk ((w.alloc o).alloc (.cells cs 32)) (w.heap.size + 1) 32 cs := by
  have := Blk.new (w.alloc o) 32 cs
  rwa [show (w.alloc o).heap.size = w.heap.size + 1 by simp] at this
/-- The sum as it is to be. -/
def sumS (a b : Int) : Int := if 9223372036854775807 < max a 0 + max b 0 then 9223372036854775807 else max a 0 + max b 0
theorem sumS_in (a b : Int) : 0 ≤ sumS a b ∧ sumS a b ≤ 9223372036854775807 := by unfold sumS; (repeat' split) <;> omega
theorem sumS_ge (a b : Int) (ha : a ≤ 9223372036854775807) : a ≤ sumS a b := by unfold sumS; (repeat' split) <;> omega
set_option maxHeartbeats 1000000 in
theorem sum_any (a b : Int) (ha : In64 a) (hb : In64 b) (w : World) :
    Calls Try.prog 80 #[.int .i64 a, .int .i64 b] w fun e w' => e = .returned (.int .i64 (sumS a b)) ∧ w = w' := by
  obtain ⟨ha, ha'⟩ := ha
  obtain ⟨hb, hb'⟩ := hb
  go_enter Try.func80, Try.ntmps80
  go_wp2
  all_goals
    go_ret
    refine ⟨ret_i64 ?_, rfl⟩
    unfold sumS
    (repeat' split)
    all_goals omega
set_option maxHeartbeats 1000000 in
theorem rsum_any (a b : Int) (ha : In64 a) (hb : In64 b) (w : World) :
    Calls Try.prog 76 #[.int .i64 a, .int .i64 b] w fun e w' => e = .returned (.int .i64 (sumS a b)) ∧ w = w' := by
  obtain ⟨ha, ha'⟩ := ha
  obtain ⟨hb, hb'⟩ := hb
  go_enter Try.func76, Try.ntmps76
  go_wp2
  all_goals
    go_ret
    refine ⟨ret_i64 ?_, rfl⟩
    unfold wrap64 at *
    unfold sumS
    (repeat' split)
    all_goals omega
def ownV (id : Int) : Vec := ⟨id, 0, id, 0⟩
def throughV (v : Vec) (c : Int) : Vec := ⟨v.root, sumS v.cost c, v.bridge, v.port⟩
def offerV (v : Vec) (id port : Int) : Vec := ⟨v.root, v.cost, id, port⟩
set_option maxHeartbeats 1000000 in
theorem own_any (id : Int) (w : World) :
    Calls Try.prog 35 #[.int .i64 id] w fun e w' => e = .returned (ownV id).v ∧ Below w.heap.size w w' := by
  simp only [Vec.v, Vec.arr, ownV]
  go_enter Try.func35, Try.ntmps35
  go_wp2
  exact bodyPost_ret (results_cell_row rfl _ _ w.heap.size 32 _ (0, 0) _ rfl (Blk.new w _ _) Try.underlying32 rfl vec_size) rfl ⟨rfl, bel_alloc _ _⟩
set_option maxHeartbeats 1000000 in
theorem offer_any (v : Vec) (id port : Int) (w : World) :
    Calls Try.prog 59 #[v.v, .int .i64 id, .int .i64 port] w fun e w' => e = .returned (offerV v id port).v ∧ Below w.heap.size w w' := by
  obtain ⟨r, k, b, p⟩ := v
  simp only [Vec.v, Vec.arr, offerV]
  go_enter Try.func59, Try.ntmps59
  go_wp2
  exact bodyPost_ret (results_cell_row rfl _ _ (w.heap.size + 1) 32 _ (0, 0) _ rfl (vec_new _ _ _) Try.underlying32 rfl vec_size) rfl ⟨rfl, bel_alloc2 _ _ _⟩
set_option maxHeartbeats 1000000 in
theorem through_any (v : Vec) (c : Int) (hv : In64 v.cost) (hc : In64 c) (w : World) :
    Calls Try.prog 78 #[v.v, .int .i64 c] w fun e w' => e = .returned (throughV v c).v ∧ Below w.heap.size w w' := by
  obtain ⟨r, k, b, p⟩ := v
  obtain ⟨s, hs⟩ : ∃ s, sumS k c = s := ⟨_, rfl⟩
  have HS := Lib.hid (fun w => sum_any k c hv hc w)
  rw [hs] at HS
  simp only [Vec.v, Vec.arr, throughV]
  rw [hs]
  clear hs hv hc
  go_enter Try.func78, Try.ntmps78
  go_wp2_with (go_at_call 80; refine (HS.out _).mono ?_; rintro e w' ⟨rfl, rfl⟩)
  exact bodyPost_ret (results_cell_row rfl _ _ (w.heap.size + 1) 32 _ (0, 0) _ rfl (vec_new _ _ _) Try.underlying32 rfl vec_size) rfl ⟨rfl, bel_alloc2 _ _ _⟩
end Go.Proofs.Ytadejdhdkkfliaa
