/- Timers put in order: what compare answers, and the library's sort by it. Its condition: fewer than 2^20 timers. -/
import Derived.Test.YtogghcbijdljkaaWmem
import Derived.Test.YtogghcbijdljkaaWlay
import Derived.Test.YtogghcbijdljkaaCmpI
import Derived.Deep.RegionLaw
namespace Go.Proofs.Ytogghcbijdljkaa
open Go.RowKit Go.Shelf Go.Lib Go.Sort
set_option maxRecDepth 100000

def cmpT (a b : Tm) : Int := if cmpI a.due b.due ≠ 0 then cmpI a.due b.due else cmpI a.key b.key
set_option maxHeartbeats 1000000 in
theorem or_any (g : Nat) (x y : Int) (w : World) (h0 : w.cell? ⟨g, 0, none⟩ = some (.int .i64 x)) (h1 : w.cell? ⟨g, 1, none⟩ = some (.int .i64 y)) :
    Calls Try.prog 47 #[.slice (some ⟨g, 0, none⟩) 2 2] w fun e w' => e = .returned (.int .i64 (if x ≠ 0 then x else y)) ∧ w = w' := by
  obtain ⟨r, hr⟩ : ∃ r, (if x ≠ 0 then x else y) = r := ⟨_, rfl⟩
  rw [hr]
  have HR := Lib.hid hr
  clear hr
  go_enter Try.func47, Try.ntmps47
  go_wp2_with fail
  go_loop [8] (fun i => (i = .int .i64 0) ∨ (i = .int .i64 1 ∧ Hid (x = 0)) ∨ (i = .int .i64 2 ∧ Hid (x = 0 ∧ y = 0))) (fun i => 2 - (intOf i).toNat)
  case atStart => exact .inl rfl
  case round =>
    rcases hrel with rfl | ⟨rfl, hx⟩ | ⟨rfl, hx⟩
    · by_cases hx : x = 0
      · have d : (x != 0) = false := by simpa using hx
        have d' : (x == 0) = true := by simpa using hx
        have HX := Lib.hid hx
        clear hx
        go_wp2_with fail
        go_round
        case rel => exact .inr (.inl ⟨rfl, HX⟩)
        case measure => decide
      · have d : (x != 0) = true := by simpa using hx
        have d' : (x == 0) = false := by simpa using hx
        have HX := Lib.hid (show x = r by rw [← HR.out, if_pos hx])
        clear hx
        go_wp2_with fail
        go_ret
        exact ⟨ret_i64 HX.out, rfl⟩
    · by_cases hy : y = 0
      · have d : (y != 0) = false := by simpa using hy
        have d' : (y == 0) = true := by simpa using hy
        have HY := Lib.hid hy
        clear hy
        go_wp2_with fail
        go_round
        case rel => exact .inr (.inr ⟨rfl, Lib.hid ⟨hx.out, HY.out⟩⟩)
        case measure => decide
      · have d : (y != 0) = true := by simpa using hy
        have d' : (y == 0) = false := by simpa using hy
        have HX := Lib.hid (show y = r by rw [← HR.out, if_neg (by simpa using hx.out)])
        clear hy
        go_wp2_with fail
        go_ret
        exact ⟨ret_i64 HX.out, rfl⟩
    · have HX := Lib.hid (show (0 : Int) = r by rw [← HR.out, if_neg (by simpa using hx.out.1), hx.out.2])
      go_wp2_with fail
      go_ret
      exact ⟨ret_i64 HX.out, rfl⟩
theorem blk3 (w : World) (o1 o2 : Obj) (t : TypeId) (cs : Array Value) : Blk (((w.alloc o1).alloc o2).alloc (.cells cs t)).drew (w.heap.size + 1 + 1) t cs := by
  have h := Blk.new ((w.alloc o1).alloc o2) t cs
  rw [show ((w.alloc o1).alloc o2).heap.size = w.heap.size + 1 + 1 by simp] at h
  exact h.drew
set_option maxHeartbeats 2000000 in
theorem compare_any (a b : Tm) (w : World) : Calls Try.prog 44 #[.agg #[.int .i64 a.due, .int .i64 a.key], .agg #[.int .i64 b.due, .int .i64 b.key]] w fun e w' => e = .returned (.int .i64 (cmpT a b)) ∧ ∃ q os', w' = grow (w.drewN q) os' := by
  obtain ⟨d1, k1⟩ := a
  obtain ⟨d2, k2⟩ := b
  simp only [cmpT]
  obtain ⟨c1, h1⟩ : ∃ c, cmpI d1 d2 = c := ⟨_, rfl⟩
  obtain ⟨c2, h2⟩ : ∃ c, cmpI k1 k2 = c := ⟨_, rfl⟩
  have H1 := Lib.hid (fun w => cmpInt_any d1 d2 w)
  have H2 := Lib.hid (fun w => cmpInt_any k1 k2 w)
  rw [h1] at H1 ⊢
  rw [h2] at H2 ⊢
  clear h1 h2
  obtain ⟨r, hr⟩ : ∃ r, (if c1 ≠ 0 then c1 else c2) = r := ⟨_, rfl⟩
  rw [hr]
  have HO := Lib.hid (fun (g : Nat) (w : World) h0 h1 => by have := or_any g c1 c2 w h0 h1; rw [hr] at this; exact this)
  clear hr
  have hb := blk3 w (.cells #[.int .i64 d1, .int .i64 k1] 46) (.cells #[.int .i64 d2, .int .i64 k2] 46) 3 #[.int .i64 c1, .int .i64 c2]
  have HOB := Lib.hid (HO.out _ _ (hb.cell 0) (hb.cell 1))
  clear hb HO
  go_enter Try.func44, Try.ntmps44
  go_wp2_with fail
  go_region_law ((first
    | (go_simp; go_at_call 48; (with_reducible (refine (H1.out _).mono ?_)); rintro e w' ⟨rfl, rfl⟩)
    | (go_simp; go_at_call 48; (with_reducible (refine (H2.out _).mono ?_)); rintro e w' ⟨rfl, rfl⟩)
    | (go_simp; go_at_call 47; (with_reducible (refine HOB.out.mono ?_)); rintro e w' ⟨rfl, rfl⟩)))
  all_goals
    go_wp2_with fail
    go_ret
    exact ⟨rfl, 1, _, by rw [alloc_eq_grow, alloc_eq_grow, alloc_eq_grow, grow_grow, grow_grow]; rfl⟩
end Go.Proofs.Ytogghcbijdljkaa
