/- The document's better: what a bridge holds, or what it hears of another one. Its condition: the costs' sum is an int. -/
import Derived.Test.YtadejdhdkkfliaaLk
namespace Go.Proofs.Ytadejdhdkkfliaa
open Go.RowKit
set_option maxRecDepth 100000

def betV (mine : Vec) (id : Int) (theirs : Vec) (other port cost : Int) : Vec := if theirs.root < id ∧ id ≠ other ∧ ltV ⟨theirs.root, theirs.cost + cost, other, port⟩ mine then ⟨theirs.root, theirs.cost + cost, other, port⟩ else mine
theorem res3 (w : World) (o1 o2 o4 : Obj) (t : TypeId) (cs : Array Value) : Blk ((((w.alloc o1).alloc o2).alloc (.cells cs t)).alloc o4) (w.heap.size + 1 + 1) t cs ∧ Below w.heap.size w ((((w.alloc o1).alloc o2).alloc (.cells cs t)).alloc o4) := by
  have h := (Blk.new ((w.alloc o1).alloc o2) t cs).alloc o4
  rw [show ((w.alloc o1).alloc o2).heap.size = w.heap.size + 1 + 1 by simp] at h
  have b1 := bel_alloc2 w o1 o2
  exact ⟨h, b1.trans ((bel_alloc2 ((w.alloc o1).alloc o2) (.cells cs t) o4).mono b1.size)⟩
theorem all4 (w : World) (t : TypeId) (c0 c1 c2 c3 : Array Value) : Blk ((((w.alloc (.cells c0 t)).alloc (.cells c1 t)).alloc (.cells c2 t)).alloc (.cells c3 t)) w.heap.size t c0 ∧ Blk ((((w.alloc (.cells c0 t)).alloc (.cells c1 t)).alloc (.cells c2 t)).alloc (.cells c3 t)) (w.heap.size + 1 + 1 + 1) t c3 := by
  have h := Blk.new (((w.alloc (.cells c0 t)).alloc (.cells c1 t)).alloc (.cells c2 t)) t c3
  rw [show (((w.alloc (.cells c0 t)).alloc (.cells c1 t)).alloc (.cells c2 t)).heap.size = w.heap.size + 1 + 1 + 1 by simp] at h
  exact ⟨(((Blk.new w t c0).alloc _).alloc _).alloc _, h⟩
theorem put4_ret {w0 w : World} {g : Nat} {t : TypeId} (bW : Below w0.heap.size w0 w) (hg : w0.heap.size ≤ g) (hr : Blk w g t #[.int .i64 0, .int .i64 0, .int .i64 0, .int .i64 0]) (a b c e : Int) : Below w0.heap.size w0 ((((w.setCell ⟨g, 0, none⟩ (.int .i64 a)).setCell ⟨g, 1, none⟩ (.int .i64 b)).setCell ⟨g, 2, none⟩ (.int .i64 c)).setCell ⟨g, 3, none⟩ (.int .i64 e)) ∧ Blk ((((w.setCell ⟨g, 0, none⟩ (.int .i64 a)).setCell ⟨g, 1, none⟩ (.int .i64 b)).setCell ⟨g, 2, none⟩ (.int .i64 c)).setCell ⟨g, 3, none⟩ (.int .i64 e)) g t #[.int .i64 a, .int .i64 b, .int .i64 c, .int .i64 e] := by
  have ht : Touch (fun k => k = g) w ((((w.setCell ⟨g, 0, none⟩ (.int .i64 a)).setCell ⟨g, 1, none⟩ (.int .i64 b)).setCell ⟨g, 2, none⟩ (.int .i64 c)).setCell ⟨g, 3, none⟩ (.int .i64 e)) := (((Touch.refl (fun k => k = g) w).set_ (a := ⟨g, 0, none⟩) (fun _ => rfl) _).set_ (a := ⟨g, 1, none⟩) (fun _ => rfl) _).set_ (a := ⟨g, 2, none⟩) (fun _ => rfl) _ |>.set_ (a := ⟨g, 3, none⟩) (fun _ => rfl) _
  exact ⟨⟨ht.os.trans bW.os, ht.tape.trans bW.tape, ht.output.trans bW.output, Nat.le_trans bW.size ht.size, fun k hk => (ht.block k (Nat.lt_of_lt_of_le hk bW.size) (by omega)).trans (bW.block k hk)⟩, (((hr.set_ 0 _).set_ 1 _).set_ 2 _).set_ 3 _⟩
set_option maxHeartbeats 4000000 in
theorem lbetter_any (mine theirs : Vec) (id other port cost : Int) (hw : wrap64 (theirs.cost + cost) = theirs.cost + cost) (w : World) :
    Calls Try.prog 68 #[mine.v, .int .i64 id, theirs.v, .int .i64 other, .int .i64 port, .int .i64 cost] w fun e w' => e = .returned (betV mine id theirs other port cost).v ∧ Below w.heap.size w w' := by
  obtain ⟨tr, tc, tb, tp⟩ := theirs
  simp only at hw
  obtain ⟨su, hsu⟩ : ∃ su, tc + cost = su := ⟨_, rfl⟩
  rw [hsu] at hw
  have HB := fun w => rbetter_any ⟨tr, su, other, port⟩ mine w
  obtain ⟨bl, hbl⟩ : ∃ bl, decide (ltV ⟨tr, su, other, port⟩ mine) = bl := ⟨_, rfl⟩
  rw [hbl] at HB
  have hres : betV mine id ⟨tr, tc, tb, tp⟩ other port cost = if tr < id ∧ id ≠ other ∧ bl = true then ⟨tr, su, other, port⟩ else mine := by
    unfold betV
    simp only
    rw [hsu, ← hbl]
    simp only [decide_eq_true_eq]
  rw [hres]
  obtain ⟨mr, mc, mb, mp⟩ := mine
  simp only [Vec.v, Vec.arr] at HB ⊢
  have HB := Lib.hid HB
  clear hres hbl
  by_cases h1 : tr < id
  rotate_left
  · have d1 : decide (tr < id) = false := decide_eq_false h1
    rw [if_neg (fun h => h1 h.1)]
    clear h1
    go_enter Try.func68, Try.ntmps68
    go_wp2_with fail
    exact bodyPost_ret (results_cell_row rfl _ _ (w.heap.size + 1 + 1) 32 _ (0, 0) _ rfl (res3 _ _ _ _ _ _).1 Try.underlying32 rfl vec_size) rfl ⟨rfl, (res3 _ _ _ _ _ _).2⟩
  have d1 : decide (tr < id) = true := decide_eq_true h1
  by_cases h2 : id = other
  · have d2 : (id != other) = false := by simpa using h2
    rw [if_neg (fun h => h.2.1 h2)]
    clear h1 h2
    go_enter Try.func68, Try.ntmps68
    go_wp2_with fail
    exact bodyPost_ret (results_cell_row rfl _ _ (w.heap.size + 1 + 1) 32 _ (0, 0) _ rfl (res3 _ _ _ _ _ _).1 Try.underlying32 rfl vec_size) rfl ⟨rfl, (res3 _ _ _ _ _ _).2⟩
  have d2 : (id != other) = true := by simpa using h2
  have hres2 : (if tr < id ∧ id ≠ other ∧ bl = true then (⟨tr, su, other, port⟩ : Vec) else ⟨mr, mc, mb, mp⟩) = if bl = true then ⟨tr, su, other, port⟩ else ⟨mr, mc, mb, mp⟩ := by
    by_cases hb : bl = true
    · rw [if_pos hb, if_pos ⟨h1, h2, hb⟩]
    · rw [if_neg hb, if_neg (fun h => hb h.2.2)]
  rw [hres2]
  have hall := all4 w 32 #[.int .i64 mr, .int .i64 mc, .int .i64 mb, .int .i64 mp] #[.int .i64 tr, .int .i64 tc, .int .i64 tb, .int .i64 tp] #[.int .i64 0, .int .i64 0, .int .i64 0, .int .i64 0] #[.int .i64 tr, .int .i64 su, .int .i64 other, .int .i64 port]
  have hre := res3 w (.cells #[.int .i64 mr, .int .i64 mc, .int .i64 mb, .int .i64 mp] 32) (.cells #[.int .i64 tr, .int .i64 tc, .int .i64 tb, .int .i64 tp] 32) (.cells #[.int .i64 tr, .int .i64 su, .int .i64 other, .int .i64 port] 32) 32 #[.int .i64 0, .int .i64 0, .int .i64 0, .int .i64 0]
  obtain ⟨W, hW⟩ : ∃ W, (((w.alloc (.cells #[.int .i64 mr, .int .i64 mc, .int .i64 mb, .int .i64 mp] 32)).alloc (.cells #[.int .i64 tr, .int .i64 tc, .int .i64 tb, .int .i64 tp] 32)).alloc (.cells #[.int .i64 0, .int .i64 0, .int .i64 0, .int .i64 0] 32)).alloc (.cells #[.int .i64 tr, .int .i64 su, .int .i64 other, .int .i64 port] 32) = W := ⟨_, rfl⟩
  rw [hW] at hall hre
  have HA := Lib.hid (And.intro hall hre)
  have y0 : W.cell? ⟨w.heap.size, 0, none⟩ = some (.int .i64 mr) := hall.1.cell 0
  have y1 : W.cell? ⟨w.heap.size, 1, none⟩ = some (.int .i64 mc) := hall.1.cell 1
  have y2 : W.cell? ⟨w.heap.size, 2, none⟩ = some (.int .i64 mb) := hall.1.cell 2
  have y3 : W.cell? ⟨w.heap.size, 3, none⟩ = some (.int .i64 mp) := hall.1.cell 3
  have z0 : W.cell? ⟨w.heap.size + 1 + 1 + 1, 0, none⟩ = some (.int .i64 tr) := hall.2.cell 0
  have z1 : W.cell? ⟨w.heap.size + 1 + 1 + 1, 1, none⟩ = some (.int .i64 su) := hall.2.cell 1
  have z2 : W.cell? ⟨w.heap.size + 1 + 1 + 1, 2, none⟩ = some (.int .i64 other) := hall.2.cell 2
  have z3 : W.cell? ⟨w.heap.size + 1 + 1 + 1, 3, none⟩ = some (.int .i64 port) := hall.2.cell 3
  clear hres2 h1 h2 hall hre
  cases bl
  · go_enter Try.func68, Try.ntmps68
    go_wp2_with fail
    refine (HB.out _).mono ?_
    rintro e w5 ⟨rfl, b5⟩
    have k0 := Blk.below HA.out.1.1 b5 HA.out.1.1.lt
    have k3 := Blk.below HA.out.1.2 b5 HA.out.1.2.lt
    have k2 := Blk.below HA.out.2.1 b5 HA.out.2.1.lt
    have hbW : Below w.heap.size w w5 := HA.out.2.2.trans (b5.mono HA.out.2.2.size)
    have f0 := k2.frozen 0
    have f1 := k2.frozen 1
    have f2 := k2.frozen 2
    have f3 := k2.frozen 3
    have r0 : w5.cell? ⟨w.heap.size + 1 + 1, 0, none⟩ = some (.int .i64 0) := k2.cell 0
    have r1 : w5.cell? ⟨w.heap.size + 1 + 1, 1, none⟩ = some (.int .i64 0) := k2.cell 1
    have r2 : w5.cell? ⟨w.heap.size + 1 + 1, 2, none⟩ = some (.int .i64 0) := k2.cell 2
    have r3 : w5.cell? ⟨w.heap.size + 1 + 1, 3, none⟩ = some (.int .i64 0) := k2.cell 3
    have m0 : w5.cell? ⟨w.heap.size, 0, none⟩ = some (.int .i64 mr) := k0.cell 0
    have m1 : w5.cell? ⟨w.heap.size, 1, none⟩ = some (.int .i64 mc) := k0.cell 1
    have m2 : w5.cell? ⟨w.heap.size, 2, none⟩ = some (.int .i64 mb) := k0.cell 2
    have m3 : w5.cell? ⟨w.heap.size, 3, none⟩ = some (.int .i64 mp) := k0.cell 3
    have v0 : w5.cell? ⟨w.heap.size + 1 + 1 + 1, 0, none⟩ = some (.int .i64 tr) := k3.cell 0
    have v1 : w5.cell? ⟨w.heap.size + 1 + 1 + 1, 1, none⟩ = some (.int .i64 su) := k3.cell 1
    have v2 : w5.cell? ⟨w.heap.size + 1 + 1 + 1, 2, none⟩ = some (.int .i64 other) := k3.cell 2
    have v3 : w5.cell? ⟨w.heap.size + 1 + 1 + 1, 3, none⟩ = some (.int .i64 port) := k3.cell 3
    have hE := put4_ret hbW (by omega : w.heap.size ≤ w.heap.size + 1 + 1) k2 mr mc mb mp
    have HE := Lib.hid hE
    clear hE k0 k2 k3 b5 hbW y0 y1 y2 y3 z0 z1 z2 z3
    go_wp2_with fail
    exact bodyPost_ret (results_cell_row rfl _ _ (w.heap.size + 1 + 1) 32 _ (0, 0) _ rfl HE.out.2 Try.underlying32 rfl vec_size) rfl ⟨rfl, HE.out.1⟩
  · go_enter Try.func68, Try.ntmps68
    go_wp2_with fail
    refine (HB.out _).mono ?_
    rintro e w5 ⟨rfl, b5⟩
    have k0 := Blk.below HA.out.1.1 b5 HA.out.1.1.lt
    have k3 := Blk.below HA.out.1.2 b5 HA.out.1.2.lt
    have k2 := Blk.below HA.out.2.1 b5 HA.out.2.1.lt
    have hbW : Below w.heap.size w w5 := HA.out.2.2.trans (b5.mono HA.out.2.2.size)
    have f0 := k2.frozen 0
    have f1 := k2.frozen 1
    have f2 := k2.frozen 2
    have f3 := k2.frozen 3
    have r0 : w5.cell? ⟨w.heap.size + 1 + 1, 0, none⟩ = some (.int .i64 0) := k2.cell 0
    have r1 : w5.cell? ⟨w.heap.size + 1 + 1, 1, none⟩ = some (.int .i64 0) := k2.cell 1
    have r2 : w5.cell? ⟨w.heap.size + 1 + 1, 2, none⟩ = some (.int .i64 0) := k2.cell 2
    have r3 : w5.cell? ⟨w.heap.size + 1 + 1, 3, none⟩ = some (.int .i64 0) := k2.cell 3
    have m0 : w5.cell? ⟨w.heap.size, 0, none⟩ = some (.int .i64 mr) := k0.cell 0
    have m1 : w5.cell? ⟨w.heap.size, 1, none⟩ = some (.int .i64 mc) := k0.cell 1
    have m2 : w5.cell? ⟨w.heap.size, 2, none⟩ = some (.int .i64 mb) := k0.cell 2
    have m3 : w5.cell? ⟨w.heap.size, 3, none⟩ = some (.int .i64 mp) := k0.cell 3
    have v0 : w5.cell? ⟨w.heap.size + 1 + 1 + 1, 0, none⟩ = some (.int .i64 tr) := k3.cell 0
    have v1 : w5.cell? ⟨w.heap.size + 1 + 1 + 1, 1, none⟩ = some (.int .i64 su) := k3.cell 1
    have v2 : w5.cell? ⟨w.heap.size + 1 + 1 + 1, 2, none⟩ = some (.int .i64 other) := k3.cell 2
    have v3 : w5.cell? ⟨w.heap.size + 1 + 1 + 1, 3, none⟩ = some (.int .i64 port) := k3.cell 3
    have hE := put4_ret hbW (by omega : w.heap.size ≤ w.heap.size + 1 + 1) k2 tr su other port
    have HE := Lib.hid hE
    clear hE k0 k2 k3 b5 hbW y0 y1 y2 y3 z0 z1 z2 z3
    go_wp2_with fail
    exact bodyPost_ret (results_cell_row rfl _ _ (w.heap.size + 1 + 1) 32 _ (0, 0) _ rfl HE.out.2 Try.underlying32 rfl vec_size) rfl ⟨rfl, HE.out.1⟩
end Go.Proofs.Ytadejdhdkkfliaa
