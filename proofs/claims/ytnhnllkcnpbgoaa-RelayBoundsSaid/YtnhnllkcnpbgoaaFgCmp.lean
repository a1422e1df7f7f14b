/- The order of places: fdb.compare. No condition. -/
import Derived.Test.YtnhnllkcnpbgoaaFbS
import Derived.Test.YtnhnllkcnpbgoaaBel
import Derived.Test.YtnhnllkcnpbgoaaCmpI
import Derived.Deep.RegionHeld3
namespace Go.Proofs.Ytnhnllkcnpbgoaa
open Go.RowKit
set_option maxRecDepth 100000

theorem cmpI_lt (x y : Int) : cmpI x y < 0 ↔ x < y := by unfold cmpI; split <;> (try split) <;> omega
theorem cmpI_zero (x y : Int) : cmpI x y = 0 ↔ x = y := by unfold cmpI; split <;> (try split) <;> omega
/-- The first of two that isn't 0. -/
def or2 (a b : Int) : Int := if a ≠ 0 then a else b
def cmpP (a b : Pl) : Int := or2 (cmpI a.v b.v) (cmpI a.m b.m)
theorem cmpP_lt (a b : Pl) : cmpP a b < 0 ↔ ltK a b := by
  unfold cmpP ltK or2
  have h1 := cmpI_lt a.v b.v
  have h2 := cmpI_zero a.v b.v
  have h3 := cmpI_lt a.m b.m
  repeat' split
  all_goals omega
theorem cmpP_zero (a b : Pl) : cmpP a b = 0 ↔ a.v = b.v ∧ a.m = b.m := by
  unfold cmpP or2
  have h2 := cmpI_zero a.v b.v
  have h3 := cmpI_zero a.m b.m
  repeat' split
  all_goals omega
set_option maxHeartbeats 1000000 in
theorem or2_any (g : Nat) (x0 x1 : Int) (w : World) (h0 : w.cell? ⟨g, 0, none⟩ = some (.int .i64 x0)) (h1 : w.cell? ⟨g, 1, none⟩ = some (.int .i64 x1)) :
    Calls Try.prog 35 #[.slice (some ⟨g, 0, none⟩) 2 2] w fun e w' => e = .returned (.int .i64 (or2 x0 x1)) ∧ w = w' := by
  obtain ⟨r, hr⟩ : ∃ r, or2 x0 x1 = r := ⟨_, rfl⟩
  rw [hr]
  have HR := Lib.hid hr
  clear hr
  go_enter Try.func35, Try.ntmps35
  go_wp2_with fail
  go_loop [8] (fun i => (i = .int .i64 0) ∨ (i = .int .i64 1 ∧ Hid (x0 = 0)) ∨ (i = .int .i64 2 ∧ Hid (x0 = 0 ∧ x1 = 0))) (fun i => 2 - (intOf i).toNat)
  case atStart => exact .inl rfl
  case round =>
    rcases hrel with rfl | ⟨rfl, hx⟩ | ⟨rfl, hx⟩
    · by_cases hz : x0 = 0
      · have d : (x0 != 0) = false := by simpa using hz
        have d' : (x0 == 0) = true := by simpa using hz
        have HX := Lib.hid (show x0 = 0 from hz)
        clear hz
        go_wp2_with fail
        go_round
        case rel => exact .inr (.inl ⟨rfl, HX⟩)
        case measure => decide
      · have d : (x0 != 0) = true := by simpa using hz
        have d' : (x0 == 0) = false := by simpa using hz
        have HX := Lib.hid (show x0 = r by rw [← HR.out]; unfold or2; simp [hz])
        clear hz
        go_wp2_with fail
        go_ret
        exact ⟨ret_i64 HX.out, rfl⟩
    · by_cases hz : x1 = 0
      · have d : (x1 != 0) = false := by simpa using hz
        have d' : (x1 == 0) = true := by simpa using hz
        have HX := Lib.hid (show x0 = 0 ∧ x1 = 0 from ⟨hx.out, hz⟩)
        clear hz
        go_wp2_with fail
        go_round
        case rel => exact .inr (.inr ⟨rfl, HX⟩)
        case measure => decide
      · have d : (x1 != 0) = true := by simpa using hz
        have d' : (x1 == 0) = false := by simpa using hz
        have HX := Lib.hid (show x1 = r by rw [← HR.out]; unfold or2; simp [hx.out])
        clear hz
        go_wp2_with fail
        go_ret
        exact ⟨ret_i64 HX.out, rfl⟩
    · have HX := Lib.hid (show (0 : Int) = r by rw [← HR.out]; unfold or2; simp [hx.out.1, hx.out.2])
      go_wp2_with fail
      go_ret
      exact ⟨ret_i64 HX.out, rfl⟩
theorem blk3 (w : World) (o1 o2 : Obj) (t : TypeId) (cs : Array Value) : Blk (((w.alloc o1).alloc o2).alloc (.cells cs t)).drew (w.heap.size + 1 + 1) t cs := by
  have := Blk.new ((w.alloc o1).alloc o2) t cs
  have e : ((w.alloc o1).alloc o2).heap.size = w.heap.size + 1 + 1 := by simp
  rw [e] at this
  exact this.drew
set_option maxHeartbeats 4000000 in
theorem fcompare_any (a b : Pl) (w : World) : Calls Try.prog 31 #[.agg #[.int .i64 a.v, .int .i64 a.m, .int .i64 a.p, .int .i64 a.s, .bool a.st], .agg #[.int .i64 b.v, .int .i64 b.m, .int .i64 b.p, .int .i64 b.s, .bool b.st]] w fun e w' => e = .returned (.int .i64 (cmpP a b)) ∧ Below w.heap.size w w' := by
  obtain ⟨r1, k1, p1, s1, t1⟩ := a
  obtain ⟨r2, k2, p2, s2, t2⟩ := b
  simp only [cmpP]
  obtain ⟨c1, h1⟩ : ∃ c, cmpI r1 r2 = c := ⟨_, rfl⟩
  obtain ⟨c2, h2⟩ : ∃ c, cmpI k1 k2 = c := ⟨_, rfl⟩
  have H1 := Lib.hid (fun w => cmpInt_any r1 r2 w)
  have H2 := Lib.hid (fun w => cmpInt_any k1 k2 w)
  rw [h1] at H1 ⊢
  rw [h2] at H2 ⊢
  clear h1 h2
  obtain ⟨r, hr⟩ : ∃ r, or2 c1 c2 = r := ⟨_, rfl⟩
  rw [hr]
  have HO := Lib.hid (fun (g : Nat) (w : World) h0 h1 => by have := or2_any g c1 c2 w h0 h1; rw [hr] at this; exact this)
  clear hr
  have hb := blk3 w (.cells #[.int .i64 r1, .int .i64 k1, .int .i64 p1, .int .i64 s1, .bool t1] 49) (.cells #[.int .i64 r2, .int .i64 k2, .int .i64 p2, .int .i64 s2, .bool t2] 49) 3 #[.int .i64 c1, .int .i64 c2]
  have HOB := Lib.hid (HO.out _ _ (hb.cell 0) (hb.cell 1))
  clear hb HO
  go_enter Try.func31, Try.ntmps31
  go_wp2_with fail
  have hb1 : Blk ((w.alloc (.cells #[.int .i64 r1, .int .i64 k1, .int .i64 p1, .int .i64 s1, .bool t1] 49)).alloc (.cells #[.int .i64 r2, .int .i64 k2, .int .i64 p2, .int .i64 s2, .bool t2] 49)).drew w.heap.size 49 #[.int .i64 r1, .int .i64 k1, .int .i64 p1, .int .i64 s1, .bool t1] := ((Blk.new w _ _).alloc _).drew
  have hb2 : Blk ((w.alloc (.cells #[.int .i64 r1, .int .i64 k1, .int .i64 p1, .int .i64 s1, .bool t1] 49)).alloc (.cells #[.int .i64 r2, .int .i64 k2, .int .i64 p2, .int .i64 s2, .bool t2] 49)).drew (w.heap.size + 1) 49 #[.int .i64 r2, .int .i64 k2, .int .i64 p2, .int .i64 s2, .bool t2] := by
    have := (Blk.new (w.alloc (.cells #[.int .i64 r1, .int .i64 k1, .int .i64 p1, .int .i64 s1, .bool t1] 49)) 49 #[.int .i64 r2, .int .i64 k2, .int .i64 p2, .int .i64 s2, .bool t2]).drew
    rwa [show (w.alloc (.cells #[.int .i64 r1, .int .i64 k1, .int .i64 p1, .int .i64 s1, .bool t1] 49)).heap.size = w.heap.size + 1 by simp] at this
  go_region_held3 (fun w' => w'.cell? ⟨w.heap.size, 0, none⟩ = some (.int .i64 r1) ∧ w'.cell? ⟨w.heap.size, 1, none⟩ = some (.int .i64 k1) ∧ w'.cell? ⟨w.heap.size + 1, 0, none⟩ = some (.int .i64 r2) ∧ w'.cell? ⟨w.heap.size + 1, 1, none⟩ = some (.int .i64 k2))
    (first | exact ⟨hb1.cell 0, hb1.cell 1, hb2.cell 0, hb2.cell 1⟩ | exact ⟨(hb1.alloc _).cell 0, (hb1.alloc _).cell 1, (hb2.alloc _).cell 0, (hb2.alloc _).cell 1⟩)
    (first
      | (go_at_call 36; (with_reducible (refine (H1.out _).mono ?_)); rintro e w' ⟨rfl, rfl⟩)
      | (go_at_call 36; (with_reducible (refine (H2.out _).mono ?_)); rintro e w' ⟨rfl, rfl⟩)
      | (go_at_call 35; (with_reducible (refine HOB.out.mono ?_)); rintro e w' ⟨rfl, rfl⟩))
  all_goals
    go_wp2_with fail
    go_ret
    exact ⟨rfl, ((((Below.refl w.heap.size w).alloc (Nat.le_refl _) _).alloc (by simp) _).alloc (by simp; omega) _).drew⟩
end Go.Proofs.Ytnhnllkcnpbgoaa
