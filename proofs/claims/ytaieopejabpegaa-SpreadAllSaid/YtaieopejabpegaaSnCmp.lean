/- The order of attributes: mrpdu.Compare, the document's Less. No condition. -/
import Derived.Test.YtaieopejabpegaaSnP
import Derived.Test.YtaieopejabpegaaBel
import Derived.Test.YtaieopejabpegaaCmpI
import Derived.Deep.RegionHeld3
namespace Go.Proofs.Ytaieopejabpegaa
open Go.RowKit
set_option maxRecDepth 100000

theorem cmpI_lt (x y : Int) : cmpI x y < 0 ↔ x < y := by unfold cmpI; split <;> (try split) <;> omega
theorem cmpI_zero (x y : Int) : cmpI x y = 0 ↔ x = y := by unfold cmpI; split <;> (try split) <;> omega
theorem At.ext2 {a b : At} (h1 : a.t = b.t) (h2 : a.v = b.v) : a = b := by
  obtain ⟨a0, a1⟩ := a
  obtain ⟨b0, b1⟩ := b
  simp only at h1 h2
  rw [h1, h2]
/-- The first of two that isn't 0. -/
def or2 (a b : Int) : Int := if a ≠ 0 then a else b
def cmpA (a b : At) : Int := or2 (cmpI a.t b.t) (cmpI a.v b.v)
/-- In order. -/
def ltA (a b : At) : Prop := a.t < b.t ∨ a.t = b.t ∧ a.v < b.v
instance (a b : At) : Decidable (ltA a b) := by unfold ltA; infer_instance
theorem cmpA_lt (a b : At) : cmpA a b < 0 ↔ ltA a b := by
  unfold cmpA ltA or2
  have h1 := cmpI_lt a.t b.t
  have h2 := cmpI_zero a.t b.t
  have h3 := cmpI_lt a.v b.v
  repeat' split
  all_goals omega
theorem ltA_trans {a b c : At} (h : ltA a b) (h' : ltA b c) : ltA a c := by unfold ltA at *; omega
theorem ltA_irrefl (a : At) : ¬ ltA a a := by unfold ltA; omega
theorem ltA_total (a b : At) (h : ¬ ltA a b) (h' : ¬ ltA b a) : a = b := by unfold ltA at *; exact At.ext2 (by omega) (by omega)
set_option maxHeartbeats 1000000 in
theorem or2_any (g : Nat) (x0 x1 : Int) (w : World) (h0 : w.cell? ⟨g, 0, none⟩ = some (.int .i64 x0)) (h1 : w.cell? ⟨g, 1, none⟩ = some (.int .i64 x1)) :
    Calls Try.prog 27 #[.slice (some ⟨g, 0, none⟩) 2 2] w fun e w' => e = .returned (.int .i64 (or2 x0 x1)) ∧ w = w' := by
  obtain ⟨r, hr⟩ : ∃ r, or2 x0 x1 = r := ⟨_, rfl⟩
  rw [hr]
  have HR := Lib.hid hr
  clear hr
  go_enter Try.func27, Try.ntmps27
  go_wp2_with fail
  go_loop [8] (fun i => (i = .int .i64 0) ∨ (i = .int .i64 1 ∧ Hid (x0 = 0)) ∨ (i = .int .i64 2 ∧ Hid (x0 = 0 ∧ x1 = 0))) (fun i => 2 - (intOf i).toNat)
  case atStart => exact .inl rfl
  case round =>
    rcases hrel with rfl | ⟨rfl, hx⟩ | ⟨rfl, hx⟩
    · by_cases hz : x0 = 0
      · have d : (x0 != 0) = false := by simpa using hz
        have d' : (x0 == 0) = true := by simpa using hz
        have HX := Lib.hid (show x0 = 0 from hz)
        clear hz
        go_wp2_with fail
        go_round
        case rel => exact .inr (.inl ⟨rfl, HX⟩)
        case measure => decide
      · have d : (x0 != 0) = true := by simpa using hz
        have d' : (x0 == 0) = false := by simpa using hz
        have HX := Lib.hid (show x0 = r by rw [← HR.out]; unfold or2; simp [hz])
        clear hz
        go_wp2_with fail
        go_ret
        exact ⟨ret_i64 HX.out, rfl⟩
    · by_cases hz : x1 = 0
      · have d : (x1 != 0) = false := by simpa using hz
        have d' : (x1 == 0) = true := by simpa using hz
        have HX := Lib.hid (show x0 = 0 ∧ x1 = 0 from ⟨hx.out, hz⟩)
        clear hz
        go_wp2_with fail
        go_round
        case rel => exact .inr (.inr ⟨rfl, HX⟩)
        case measure => decide
      · have d : (x1 != 0) = true := by simpa using hz
        have d' : (x1 == 0) = false := by simpa using hz
        have HX := Lib.hid (show x1 = r by rw [← HR.out]; unfold or2; simp [hx.out])
        clear hz
        go_wp2_with fail
        go_ret
        exact ⟨ret_i64 HX.out, rfl⟩
    · have HX := Lib.hid (show (0 : Int) = r by rw [← HR.out]; unfold or2; simp [hx.out.1, hx.out.2])
      go_wp2_with fail
      go_ret
      exact ⟨ret_i64 HX.out, rfl⟩
theorem blk3 (w : World) (o1 o2 : Obj) (t : TypeId) (cs : Array Value) : Blk (((w.alloc o1).alloc o2).alloc (.cells cs t)).drew (w.heap.size + 1 + 1) t cs := by
  have := Blk.new ((w.alloc o1).alloc o2) t cs
  have e : ((w.alloc o1).alloc o2).heap.size = w.heap.size + 1 + 1 := by simp
  rw [e] at this
  exact this.drew
set_option maxHeartbeats 4000000 in
theorem acompare_exact (a b : At) (w : World) : Calls Try.prog 21 #[.agg #[.int .i64 a.t, .int .i64 a.v], .agg #[.int .i64 b.t, .int .i64 b.v]] w fun e w' => e = .returned (.int .i64 (cmpA a b)) ∧ ∃ o1 o2 o3, w' = (((w.alloc o1).alloc o2).alloc o3).drew := by
  obtain ⟨r1, k1⟩ := a
  obtain ⟨r2, k2⟩ := b
  simp only [cmpA]
  obtain ⟨c1, h1⟩ : ∃ c, cmpI r1 r2 = c := ⟨_, rfl⟩
  obtain ⟨c2, h2⟩ : ∃ c, cmpI k1 k2 = c := ⟨_, rfl⟩
  have H1 := Lib.hid (fun w => cmpInt_any r1 r2 w)
  have H2 := Lib.hid (fun w => cmpInt_any k1 k2 w)
  rw [h1] at H1 ⊢
  rw [h2] at H2 ⊢
  clear h1 h2
  obtain ⟨r, hr⟩ : ∃ r, or2 c1 c2 = r := ⟨_, rfl⟩
  rw [hr]
  have HO := Lib.hid (fun (g : Nat) (w : World) h0 h1 => by have := or2_any g c1 c2 w h0 h1; rw [hr] at this; exact this)
  clear hr
  have hb := blk3 w (.cells #[.int .i64 r1, .int .i64 k1] 24) (.cells #[.int .i64 r2, .int .i64 k2] 24) 3 #[.int .i64 c1, .int .i64 c2]
  have HOB := Lib.hid (HO.out _ _ (hb.cell 0) (hb.cell 1))
  clear hb HO
  go_enter Try.func21, Try.ntmps21
  go_wp2_with fail
  have hb1 : Blk ((w.alloc (.cells #[.int .i64 r1, .int .i64 k1] 24)).alloc (.cells #[.int .i64 r2, .int .i64 k2] 24)).drew w.heap.size 24 #[.int .i64 r1, .int .i64 k1] := ((Blk.new w _ _).alloc _).drew
  have hb2 : Blk ((w.alloc (.cells #[.int .i64 r1, .int .i64 k1] 24)).alloc (.cells #[.int .i64 r2, .int .i64 k2] 24)).drew (w.heap.size + 1) 24 #[.int .i64 r2, .int .i64 k2] := by
    have := (Blk.new (w.alloc (.cells #[.int .i64 r1, .int .i64 k1] 24)) 24 #[.int .i64 r2, .int .i64 k2]).drew
    rwa [show (w.alloc (.cells #[.int .i64 r1, .int .i64 k1] 24)).heap.size = w.heap.size + 1 by simp] at this
  go_region_held3 (fun w' => w'.cell? ⟨w.heap.size, 0, none⟩ = some (.int .i64 r1) ∧ w'.cell? ⟨w.heap.size, 1, none⟩ = some (.int .i64 k1) ∧ w'.cell? ⟨w.heap.size + 1, 0, none⟩ = some (.int .i64 r2) ∧ w'.cell? ⟨w.heap.size + 1, 1, none⟩ = some (.int .i64 k2))
    (first | exact ⟨hb1.cell 0, hb1.cell 1, hb2.cell 0, hb2.cell 1⟩ | exact ⟨(hb1.alloc _).cell 0, (hb1.alloc _).cell 1, (hb2.alloc _).cell 0, (hb2.alloc _).cell 1⟩)
    (first
      | (go_at_call 28; (with_reducible (refine (H1.out _).mono ?_)); rintro e w' ⟨rfl, rfl⟩)
      | (go_at_call 28; (with_reducible (refine (H2.out _).mono ?_)); rintro e w' ⟨rfl, rfl⟩)
      | (go_at_call 27; (with_reducible (refine HOB.out.mono ?_)); rintro e w' ⟨rfl, rfl⟩))
  all_goals
    go_wp2_with fail
    go_ret
    exact ⟨rfl, _, _, _, rfl⟩
def lessB (t v t' v' : Int) : Bool := decide (t < t') || (decide (t = t') && decide (v < v'))
set_option maxHeartbeats 1000000 in
theorem dless_any (t v t' v' : Int) (w : World) : Calls Try.prog 13 #[.agg #[.int .i64 t, .int .i64 v], .agg #[.int .i64 t', .int .i64 v']] w fun e w' => e = .returned (.bool (lessB t v t' v')) ∧ Below w.heap.size w w' := by
  have hb := bel_alloc2 w (.cells #[.int .i64 t, .int .i64 v] 24) (.cells #[.int .i64 t', .int .i64 v'] 24)
  have HB := Lib.hid hb
  clear hb
  obtain ⟨r, hr⟩ : ∃ r, lessB t v t' v' = r := ⟨_, rfl⟩
  rw [hr]
  unfold lessB at hr
  by_cases h1 : t < t'
  · have HR := Lib.hid (show true = r by rw [← hr, decide_eq_true h1]; rfl)
    clear hr
    go_enter Try.func13, Try.ntmps13
    go_wp2_with fail
    go_ret
    exact ⟨ret_bool HR.out, HB.out⟩
  · have e1 : decide (t < t') = false := decide_eq_false h1
    by_cases h2 : t = t'
    · have HR := Lib.hid (show decide (v < v') = r by rw [← hr, e1, decide_eq_true h2]; simp)
      subst h2
      clear hr h1
      go_enter Try.func13, Try.ntmps13
      go_wp2_with fail
      go_ret
      exact ⟨ret_bool HR.out, HB.out⟩
    · have HR := Lib.hid (show false = r by rw [← hr, e1, decide_eq_false h2]; rfl)
      have e2 : (t == t') = false := by simpa using h2
      clear hr h1 h2
      go_enter Try.func13, Try.ntmps13
      go_wp2_with fail
      go_ret
      exact ⟨ret_bool HR.out, HB.out⟩
end Go.Proofs.Ytaieopejabpegaa
