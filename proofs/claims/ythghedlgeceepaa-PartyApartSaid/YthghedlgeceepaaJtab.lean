/- The registrar's and the applicant's tables, as the program lays them. No condition. -/
import Derived.Test.YthghedlgeceepaaJat
namespace Go.Proofs.Ythghedlgeceepaa
open Go.RowKit
set_option maxRecDepth 100000

def cesL : List Ce → List Value
  | [] => []
  | c :: r => .int .i64 c.1 :: .int .i64 c.2 :: cesL r
theorem cesL_at (r : List Ce) (k : Nat) (h : k < r.length) : (cesL r)[k * 2]? = some (.int .i64 (r.getD k ce0).1) ∧ (cesL r)[k * 2 + 1]? = some (.int .i64 (r.getD k ce0).2) := by
  induction r generalizing k with
  | nil => simp at h
  | cons a r ih =>
    cases k with
    | zero => exact ⟨rfl, rfl⟩
    | succ k =>
      have := ih k (by simpa using h)
      rw [show (k + 1) * 2 = k * 2 + 1 + 1 from by omega]
      exact this
theorem CrAt.of_blk {w : World} {g B : Nat} {t : TypeId} {r : List Ce} {cs : Array Value} (h : Blk w g t cs) (hg : g < B) (e : cs = (cesL r).toArray) : CrAt w B (some ⟨g, 0, none⟩) r := fun k hk => by
  subst e
  obtain ⟨p, q⟩ := cesL_at r k hk
  refine ⟨g, 0, rfl, hg, ?_, ?_⟩
  · rw [h.cell, Nat.zero_add]; simpa using p
  · rw [h.cell, Nat.zero_add]; simpa using q
def regT : Tb := [[(2, 3), (0, 0), (0, 0), (0, 0), (0, 0)], [(2, 2), (1, 0), (1, 0), (0, 4), (0, 4)], [(2, 0), (1, 1), (1, 1), (2, 0), (0, 4)]]
def appT : Tb := [[(1, 0), (0, 0), (0, 0), (0, 0), (0, 0), (1, 0)], [(1, 0), (4, 0), (1, 0), (1, 0), (2, 1), (1, 0)], [(2, 0), (4, 0), (2, 0), (2, 0), (3, 2), (1, 0)], [(3, 0), (4, 0), (2, 0), (2, 0), (3, 0), (1, 0)], [(2, 0), (4, 0), (4, 0), (4, 0), (0, 3), (1, 0)]]
theorem lay4 (w : World) (t u : TypeId) (c0 c1 c2 : Array Value) (o : Array Value) (r0 r1 r2 : List Ce) (e0 : c0 = (cesL r0).toArray) (e1 : c1 = (cesL r1).toArray) (e2 : c2 = (cesL r2).toArray)
    (eo : o = #[.slice (some ⟨w.heap.size, 0, none⟩) r0.length r0.length, .slice (some ⟨w.heap.size + 1, 0, none⟩) r1.length r1.length, .slice (some ⟨w.heap.size + 1 + 1, 0, none⟩) r2.length r2.length]) {W : World} (hW : (((w.alloc (.cells c0 t)).alloc (.cells c1 t)).alloc (.cells c2 t)).alloc (.cells o u) = W) :
    TbAt W W.heap.size (some ⟨w.heap.size + 1 + 1 + 1, 0, none⟩) [r0, r1, r2] ∧ Below w.heap.size w W := by
  have s1 : (w.alloc (.cells c0 t)).heap.size = w.heap.size + 1 := by simp
  have s2 : ((w.alloc (.cells c0 t)).alloc (.cells c1 t)).heap.size = w.heap.size + 1 + 1 := by simp
  have s3 : (((w.alloc (.cells c0 t)).alloc (.cells c1 t)).alloc (.cells c2 t)).heap.size = w.heap.size + 1 + 1 + 1 := by simp
  have hS : W.heap.size = w.heap.size + 1 + 1 + 1 + 1 := by rw [← hW]; simp
  have k0 := (((Blk.new w t c0).alloc (.cells c1 t)).alloc (.cells c2 t)).alloc (.cells o u)
  have k1 := ((Blk.new (w.alloc (.cells c0 t)) t c1).alloc (.cells c2 t)).alloc (.cells o u)
  have k2 := (Blk.new ((w.alloc (.cells c0 t)).alloc (.cells c1 t)) t c2).alloc (.cells o u)
  have k3 := Blk.new (((w.alloc (.cells c0 t)).alloc (.cells c1 t)).alloc (.cells c2 t)) u o
  have b1 := bel_alloc2 w (.cells c0 t) (.cells c1 t)
  have b2 := b1.trans ((bel_alloc2 ((w.alloc (.cells c0 t)).alloc (.cells c1 t)) (.cells c2 t) (.cells o u)).mono b1.size)
  rw [s1] at k1
  rw [s2] at k2
  rw [s3] at k3
  rw [hW] at k0 k1 k2 k3 b2
  refine ⟨fun s hs => ?_, b2⟩
  have h3 : ∀ i, W.cell? ⟨w.heap.size + 1 + 1 + 1, 0 + i, none⟩ = o[i]? := fun i => by rw [Nat.zero_add]; exact k3.cell i
  subst eo
  match s, hs with
  | 0, _ => exact ⟨_, _, _, _, rfl, by omega, h3 0, CrAt.of_blk k0 (by omega) e0⟩
  | 1, _ => exact ⟨_, _, _, _, rfl, by omega, h3 1, CrAt.of_blk k1 (by omega) e1⟩
  | 2, _ => exact ⟨_, _, _, _, rfl, by omega, h3 2, CrAt.of_blk k2 (by omega) e2⟩
theorem lay6 (w : World) (t u : TypeId) (c0 c1 c2 c3 c4 : Array Value) (o : Array Value) (r0 r1 r2 r3 r4 : List Ce) (e0 : c0 = (cesL r0).toArray) (e1 : c1 = (cesL r1).toArray) (e2 : c2 = (cesL r2).toArray) (e3 : c3 = (cesL r3).toArray) (e4 : c4 = (cesL r4).toArray)
    (eo : o = #[.slice (some ⟨w.heap.size, 0, none⟩) r0.length r0.length, .slice (some ⟨w.heap.size + 1, 0, none⟩) r1.length r1.length, .slice (some ⟨w.heap.size + 1 + 1, 0, none⟩) r2.length r2.length, .slice (some ⟨w.heap.size + 1 + 1 + 1, 0, none⟩) r3.length r3.length, .slice (some ⟨w.heap.size + 1 + 1 + 1 + 1, 0, none⟩) r4.length r4.length]) {W : World} (hW : (((((w.alloc (.cells c0 t)).alloc (.cells c1 t)).alloc (.cells c2 t)).alloc (.cells c3 t)).alloc (.cells c4 t)).alloc (.cells o u) = W) :
    TbAt W W.heap.size (some ⟨w.heap.size + 1 + 1 + 1 + 1 + 1, 0, none⟩) [r0, r1, r2, r3, r4] ∧ Below w.heap.size w W := by
  have s1 : (w.alloc (.cells c0 t)).heap.size = w.heap.size + 1 := by simp
  have s2 : ((w.alloc (.cells c0 t)).alloc (.cells c1 t)).heap.size = w.heap.size + 1 + 1 := by simp
  have s3 : (((w.alloc (.cells c0 t)).alloc (.cells c1 t)).alloc (.cells c2 t)).heap.size = w.heap.size + 1 + 1 + 1 := by simp
  have s4 : ((((w.alloc (.cells c0 t)).alloc (.cells c1 t)).alloc (.cells c2 t)).alloc (.cells c3 t)).heap.size = w.heap.size + 1 + 1 + 1 + 1 := by simp
  have s5 : (((((w.alloc (.cells c0 t)).alloc (.cells c1 t)).alloc (.cells c2 t)).alloc (.cells c3 t)).alloc (.cells c4 t)).heap.size = w.heap.size + 1 + 1 + 1 + 1 + 1 := by simp
  have hS : W.heap.size = w.heap.size + 1 + 1 + 1 + 1 + 1 + 1 := by rw [← hW]; simp
  have k0 := (((((Blk.new w t c0).alloc (.cells c1 t)).alloc (.cells c2 t)).alloc (.cells c3 t)).alloc (.cells c4 t)).alloc (.cells o u)
  have k1 := ((((Blk.new (w.alloc (.cells c0 t)) t c1).alloc (.cells c2 t)).alloc (.cells c3 t)).alloc (.cells c4 t)).alloc (.cells o u)
  have k2 := (((Blk.new ((w.alloc (.cells c0 t)).alloc (.cells c1 t)) t c2).alloc (.cells c3 t)).alloc (.cells c4 t)).alloc (.cells o u)
  have k3 := ((Blk.new (((w.alloc (.cells c0 t)).alloc (.cells c1 t)).alloc (.cells c2 t)) t c3).alloc (.cells c4 t)).alloc (.cells o u)
  have k4 := (Blk.new ((((w.alloc (.cells c0 t)).alloc (.cells c1 t)).alloc (.cells c2 t)).alloc (.cells c3 t)) t c4).alloc (.cells o u)
  have k5 := Blk.new (((((w.alloc (.cells c0 t)).alloc (.cells c1 t)).alloc (.cells c2 t)).alloc (.cells c3 t)).alloc (.cells c4 t)) u o
  have b1 := bel_alloc2 w (.cells c0 t) (.cells c1 t)
  have b2 := b1.trans ((bel_alloc2 ((w.alloc (.cells c0 t)).alloc (.cells c1 t)) (.cells c2 t) (.cells c3 t)).mono b1.size)
  have b3 := b2.trans ((bel_alloc2 ((((w.alloc (.cells c0 t)).alloc (.cells c1 t)).alloc (.cells c2 t)).alloc (.cells c3 t)) (.cells c4 t) (.cells o u)).mono b2.size)
  rw [s1] at k1
  rw [s2] at k2
  rw [s3] at k3
  rw [s4] at k4
  rw [s5] at k5
  rw [hW] at k0 k1 k2 k3 k4 k5 b3
  refine ⟨fun s hs => ?_, b3⟩
  have h5 : ∀ i, W.cell? ⟨w.heap.size + 1 + 1 + 1 + 1 + 1, 0 + i, none⟩ = o[i]? := fun i => by rw [Nat.zero_add]; exact k5.cell i
  subst eo
  match s, hs with
  | 0, _ => exact ⟨_, _, _, _, rfl, by omega, h5 0, CrAt.of_blk k0 (by omega) e0⟩
  | 1, _ => exact ⟨_, _, _, _, rfl, by omega, h5 1, CrAt.of_blk k1 (by omega) e1⟩
  | 2, _ => exact ⟨_, _, _, _, rfl, by omega, h5 2, CrAt.of_blk k2 (by omega) e2⟩
  | 3, _ => exact ⟨_, _, _, _, rfl, by omega, h5 3, CrAt.of_blk k3 (by omega) e3⟩
  | 4, _ => exact ⟨_, _, _, _, rfl, by omega, h5 4, CrAt.of_blk k4 (by omega) e4⟩
set_option maxHeartbeats 4000000 in
theorem reg_any (w : World) : Calls Try.prog 88 #[] w fun e w' => ∃ A, e = .returned (.slice A 3 3) ∧ TbAt w' w'.heap.size A regT ∧ Below w.heap.size w w' := by
  go_enter Try.func88, Try.ntmps88
  go_wp2_with fail
  go_ret
  exact ⟨_, rfl, lay4 w 119 130 _ _ _ _ [(2, 3), (0, 0), (0, 0), (0, 0), (0, 0)] [(2, 2), (1, 0), (1, 0), (0, 4), (0, 4)] [(2, 0), (1, 1), (1, 1), (2, 0), (0, 4)] rfl rfl rfl rfl rfl⟩
set_option maxHeartbeats 4000000 in
theorem app_any (w : World) : Calls Try.prog 84 #[] w fun e w' => ∃ A, e = .returned (.slice A 5 5) ∧ TbAt w' w'.heap.size A appT ∧ Below w.heap.size w w' := by
  go_enter Try.func84, Try.ntmps84
  go_wp2_with fail
  go_ret
  exact ⟨_, rfl, lay6 w 119 130 _ _ _ _ _ _ [(1, 0), (0, 0), (0, 0), (0, 0), (0, 0), (1, 0)] [(1, 0), (4, 0), (1, 0), (1, 0), (2, 1), (1, 0)] [(2, 0), (4, 0), (2, 0), (2, 0), (3, 2), (1, 0)] [(3, 0), (4, 0), (2, 0), (2, 0), (3, 0), (1, 0)] [(2, 0), (4, 0), (4, 0), (4, 0), (0, 3), (1, 0)] rfl rfl rfl rfl rfl rfl rfl⟩
end Go.Proofs.Ythghedlgeceepaa

