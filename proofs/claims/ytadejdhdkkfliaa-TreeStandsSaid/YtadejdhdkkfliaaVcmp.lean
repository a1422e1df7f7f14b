/- Which vector is better: prio.Compare, prio.Better, the document's Better. No condition. -/
import Derived.Test.YtadejdhdkkfliaaVmem
import Derived.Test.YtadejdhdkkfliaaCmpI
import Derived.Deep.RegionHeld3
namespace Go.Proofs.Ytadejdhdkkfliaa
open Go.RowKit
set_option maxRecDepth 100000

theorem cmpI_lt (x y : Int) : cmpI x y < 0 ↔ x < y := by unfold cmpI; split <;> (try split) <;> omega
theorem cmpI_zero (x y : Int) : cmpI x y = 0 ↔ x = y := by unfold cmpI; split <;> (try split) <;> omega
theorem cmpI_gt (x y : Int) : 0 < cmpI x y ↔ y < x := by unfold cmpI; split <;> (try split) <;> omega
theorem cmpI_one (x y : Int) : -1 ≤ cmpI x y ∧ cmpI x y ≤ 1 := by unfold cmpI; split <;> (try split) <;> omega
/-- The first of four that isn't 0. -/
def or4 (a b c d : Int) : Int := if a ≠ 0 then a else if b ≠ 0 then b else if c ≠ 0 then c else d
def cmpV (a b : Vec) : Int := or4 (cmpI a.root b.root) (cmpI a.cost b.cost) (cmpI a.bridge b.bridge) (cmpI a.port b.port)
/-- Better. -/
def ltV (a b : Vec) : Prop := a.root < b.root ∨ a.root = b.root ∧ (a.cost < b.cost ∨ a.cost = b.cost ∧ (a.bridge < b.bridge ∨ a.bridge = b.bridge ∧ a.port < b.port))
instance (a b : Vec) : Decidable (ltV a b) := by unfold ltV; infer_instance
theorem cmpV_lt (a b : Vec) : cmpV a b < 0 ↔ ltV a b := by
  unfold cmpV ltV or4
  have h1 := cmpI_lt a.root b.root
  have h2 := cmpI_zero a.root b.root
  have h3 := cmpI_lt a.cost b.cost
  have h4 := cmpI_zero a.cost b.cost
  have h5 := cmpI_lt a.bridge b.bridge
  have h6 := cmpI_zero a.bridge b.bridge
  have h7 := cmpI_lt a.port b.port
  repeat' split
  all_goals omega
theorem cmpV_zero (a b : Vec) : cmpV a b = 0 ↔ a = b := by
  have h2 := cmpI_zero a.root b.root
  have h4 := cmpI_zero a.cost b.cost
  have h6 := cmpI_zero a.bridge b.bridge
  have h7 := cmpI_zero a.port b.port
  constructor
  · intro h
    unfold cmpV or4 at h
    (repeat' split at h) <;> first | (exfalso; omega) | exact Vec.ext4 (by omega) (by omega) (by omega) (by omega)
  · rintro rfl
    unfold cmpV or4
    (repeat' split) <;> omega
theorem cmpI_swap (x y : Int) : cmpI y x = - cmpI x y := by unfold cmpI; (repeat' split) <;> omega
theorem cmpV_swap (a b : Vec) : cmpV b a = - cmpV a b := by
  unfold cmpV or4
  rw [cmpI_swap a.root b.root, cmpI_swap a.cost b.cost, cmpI_swap a.bridge b.bridge, cmpI_swap a.port b.port]
  (repeat' split) <;> omega
theorem cmpV_one (a b : Vec) : -1 ≤ cmpV a b ∧ cmpV a b ≤ 1 := by
  unfold cmpV or4
  have h1 := cmpI_one a.root b.root
  have h3 := cmpI_one a.cost b.cost
  have h5 := cmpI_one a.bridge b.bridge
  have h7 := cmpI_one a.port b.port
  (repeat' split) <;> omega
theorem ltV_trans {a b c : Vec} (h : ltV a b) (h' : ltV b c) : ltV a c := by unfold ltV at *; omega
theorem ltV_irrefl (a : Vec) : ¬ ltV a a := by unfold ltV; omega
theorem leV_trans {a b c : Vec} (h : ¬ ltV b a) (h' : ¬ ltV c b) : ¬ ltV c a := by unfold ltV at *; omega
theorem ltV_total (a b : Vec) (h : ¬ ltV a b) (h' : ¬ ltV b a) : a = b := by unfold ltV at *; exact Vec.ext4 (by omega) (by omega) (by omega) (by omega)

set_option maxHeartbeats 1000000 in
theorem or4_any (g : Nat) (x0 x1 x2 x3 : Int) (w : World) (h0 : w.cell? ⟨g, 0, none⟩ = some (.int .i64 x0)) (h1 : w.cell? ⟨g, 1, none⟩ = some (.int .i64 x1)) (h2 : w.cell? ⟨g, 2, none⟩ = some (.int .i64 x2)) (h3 : w.cell? ⟨g, 3, none⟩ = some (.int .i64 x3)) :
    Calls Try.prog 82 #[.slice (some ⟨g, 0, none⟩) 4 4] w fun e w' => e = .returned (.int .i64 (or4 x0 x1 x2 x3)) ∧ w = w' := by
  obtain ⟨r, hr⟩ : ∃ r, or4 x0 x1 x2 x3 = r := ⟨_, rfl⟩
  rw [hr]
  have HR := Lib.hid hr
  clear hr
  go_enter Try.func82, Try.ntmps82
  go_wp2_with fail
  go_loop [8] (fun i => (i = .int .i64 0) ∨ (i = .int .i64 1 ∧ Hid (x0 = 0)) ∨ (i = .int .i64 2 ∧ Hid (x0 = 0 ∧ x1 = 0)) ∨ (i = .int .i64 3 ∧ Hid (x0 = 0 ∧ x1 = 0 ∧ x2 = 0)) ∨ (i = .int .i64 4 ∧ Hid (x0 = 0 ∧ x1 = 0 ∧ x2 = 0 ∧ x3 = 0))) (fun i => 4 - (intOf i).toNat)
  case atStart => exact .inl rfl
  case round =>
    rcases hrel with rfl | ⟨rfl, hx⟩ | ⟨rfl, hx⟩ | ⟨rfl, hx⟩ | ⟨rfl, hx⟩
    · by_cases hz : x0 = 0
      · have d : (x0 != 0) = false := by simpa using hz
        have d' : (x0 == 0) = true := by simpa using hz
        have HX := Lib.hid (show x0 = 0 from hz)
        clear hz
        go_wp2_with fail
        go_round
        case rel => exact .inr (.inl ⟨rfl, HX⟩)
        case measure => decide
      · have d : (x0 != 0) = true := by simpa using hz
        have d' : (x0 == 0) = false := by simpa using hz
        have HX := Lib.hid (show x0 = r by rw [← HR.out]; unfold or4; simp [hz])
        clear hz
        go_wp2_with fail
        go_ret
        exact ⟨ret_i64 HX.out, rfl⟩
    · by_cases hz : x1 = 0
      · have d : (x1 != 0) = false := by simpa using hz
        have d' : (x1 == 0) = true := by simpa using hz
        have HX := Lib.hid (show x0 = 0 ∧ x1 = 0 from ⟨hx.out, hz⟩)
        clear hz
        go_wp2_with fail
        go_round
        case rel => exact .inr (.inr (.inl ⟨rfl, HX⟩))
        case measure => decide
      · have d : (x1 != 0) = true := by simpa using hz
        have d' : (x1 == 0) = false := by simpa using hz
        have HX := Lib.hid (show x1 = r by rw [← HR.out]; unfold or4; simp [hz, hx.out])
        clear hz
        go_wp2_with fail
        go_ret
        exact ⟨ret_i64 HX.out, rfl⟩
    · by_cases hz : x2 = 0
      · have d : (x2 != 0) = false := by simpa using hz
        have d' : (x2 == 0) = true := by simpa using hz
        have HX := Lib.hid (show x0 = 0 ∧ x1 = 0 ∧ x2 = 0 from ⟨hx.out.1, hx.out.2, hz⟩)
        clear hz
        go_wp2_with fail
        go_round
        case rel => exact .inr (.inr (.inr (.inl ⟨rfl, HX⟩)))
        case measure => decide
      · have d : (x2 != 0) = true := by simpa using hz
        have d' : (x2 == 0) = false := by simpa using hz
        have HX := Lib.hid (show x2 = r by rw [← HR.out]; unfold or4; simp [hz, hx.out.1, hx.out.2])
        clear hz
        go_wp2_with fail
        go_ret
        exact ⟨ret_i64 HX.out, rfl⟩
    · by_cases hz : x3 = 0
      · have d : (x3 != 0) = false := by simpa using hz
        have d' : (x3 == 0) = true := by simpa using hz
        have HX := Lib.hid (show x0 = 0 ∧ x1 = 0 ∧ x2 = 0 ∧ x3 = 0 from ⟨hx.out.1, hx.out.2.1, hx.out.2.2, hz⟩)
        clear hz
        go_wp2_with fail
        go_round
        case rel => exact .inr (.inr (.inr (.inr ⟨rfl, HX⟩)))
        case measure => decide
      · have d : (x3 != 0) = true := by simpa using hz
        have d' : (x3 == 0) = false := by simpa using hz
        have HX := Lib.hid (show x3 = r by rw [← HR.out]; unfold or4; simp [hx.out.1, hx.out.2.1, hx.out.2.2])
        clear hz
        go_wp2_with fail
        go_ret
        exact ⟨ret_i64 HX.out, rfl⟩
    · have HX := Lib.hid (show (0 : Int) = r by rw [← HR.out]; unfold or4; simp [hx.out.1, hx.out.2.1, hx.out.2.2.1, hx.out.2.2.2])
      go_wp2_with fail
      go_ret
      exact ⟨ret_i64 HX.out, rfl⟩
theorem blk3 (w : World) (o1 o2 : Obj) (t : TypeId) (cs : Array Value) : Blk (((w.alloc o1).alloc o2).alloc (.cells cs t)).drew (w.heap.size + 1 + 1) t cs := by
  have h := Blk.new ((w.alloc o1).alloc o2) t cs
  rw [show ((w.alloc o1).alloc o2).heap.size = w.heap.size + 1 + 1 by simp] at h
  exact h.drew
end Go.Proofs.Ytadejdhdkkfliaa
