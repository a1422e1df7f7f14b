/- RegisLeaves: not said again what was registered is gone Leave ticks behind a leaving, not ahead of that. No condition. -/
import Derived.Test.YtoiapdcleagepaaRgAlive
import Derived.Test.YtoiapdcleagepaaOpen
namespace Go.Proofs.Ytoiapdcleagepaa
open Go.ChangeShapes Go.WideShapes Go.ChangeAt Go.RowKit Go.Deep
set_option maxRecDepth 100000

theorem leaves_1 (a : Int) (h : 0 ≤ a) : hearR ⟨0, 0, 0, 0⟩ 3 a a = ⟨0, 2, a, 0⟩ := by
  unfold hearR joinR
  rw [if_pos (.inr (.inr rfl)), Int.min_self, if_neg (by omega)]
  rfl
theorem leaves_2 (a : Int) : hearR ⟨0, 2, a, 0⟩ 5 a a = ⟨0, 1, a, a⟩ := rfl
theorem leaves_3 (a d : Int) (h1 : d ≤ 90) : hasR (tickR ⟨0, 1, a, a⟩ (a + d)) = decide (d < 24) := by
  by_cases h : d < 24
  · rw [decide_eq_true h, tickR_C (show ¬ ((1 : Int) = 1 ∧ 24 ≤ a + d - a) by omega) (show ¬ 120 < a + d - a by omega)]
    rfl
  · rw [decide_eq_false h, tickR_A (r := ⟨0, 1, a, a⟩) rfl (show 24 ≤ a + d - a by omega)]
    rfl
set_option maxHeartbeats 4000000 in
theorem walkRegisLeaves (a d : Int) (w : World) (_ha : (Lit.int .i64 a).wf = true) (_hd : (Lit.int .i64 d).wf = true) :
    Calls Try.prog 6 #[.int .i64 a, .int .i64 d] w fun e w' => e = .returned (.bool true) ∧ Below w.heap.size w w' := by
  have HAL := Lib.hid (ralive_any w)
  clear _ha _hd
  go_enter Try.func6, Try.ntmps6
  go_wp2_with fail
  refine HAL.out.mono ?_
  rintro e w1 ⟨rfl, b1⟩
  by_cases q0 : a < 0
  · go_wp2_with fail
    go_ret
    exact ⟨rfl, b1⟩
  have e0 : decide (a < 0) = false := decide_eq_false q0
  by_cases q1 : 1000 < a
  · go_wp2_with fail
    go_ret
    exact ⟨rfl, b1⟩
  have e1 : decide (1000 < a) = false := decide_eq_false q1
  by_cases q2 : d < 0
  · go_wp2_with fail
    go_ret
    exact ⟨rfl, b1⟩
  have e2 : decide (d < 0) = false := decide_eq_false q2
  by_cases q3 : 90 < d
  · go_wp2_with fail
    go_ret
    exact ⟨rfl, b1⟩
  have e3 : decide (90 < d) = false := decide_eq_false q3
  have hT : Tk a := ⟨by omega, by omega⟩
  have hT2 : Tk (a + d) := ⟨by omega, by omega⟩
  have HW := Lib.hid (show wrap64 (a + d) = a + d from IntWalk.wrap64_in _ (by omega))
  have HN := Lib.hid (rnew_ok 0 rfl w1)
  have H1 := Lib.hid (fun (g : Nat) (w2 : World) (h : RgAt w2 g ⟨0, 0, 0, 0⟩) => rhear_any h (okR_new rfl hT.1) hT 3 a)
  rw [leaves_1 a hT.1] at H1
  have o1 : OkR a ⟨0, 2, a, 0⟩ := by rw [← leaves_1 a hT.1]; exact (okR_new rfl hT.1).hear hT.1 3 a
  have H2 := Lib.hid (fun (g : Nat) (w2 : World) (h : RgAt w2 g ⟨0, 2, a, 0⟩) => rhear_any h o1 hT 5 a)
  rw [leaves_2 a] at H2
  have o2 : OkR (a + d) ⟨0, 1, a, a⟩ := by rw [← leaves_2 a]; exact (o1.hear hT.1 5 a).more (by omega)
  have H3 := Lib.hid (fun (g : Nat) (w2 : World) (h : RgAt w2 g ⟨0, 1, a, a⟩) => rtick_any h o2 hT2)
  have hl3 := leaves_3 a d (by omega)
  obtain ⟨r', hr'⟩ : ∃ r', tickR ⟨0, 1, a, a⟩ (a + d) = r' := ⟨_, rfl⟩
  rw [hr'] at H3 hl3
  obtain ⟨s, hs⟩ : ∃ s, a + d = s := ⟨_, rfl⟩
  rw [hs] at H3 HW
  have HH := Lib.hid (fun (g : Nat) (w2 : World) (h : RgAt w2 g r') => show Calls Try.prog 14 #[.pointer (some ⟨g, 0, none⟩)] w2 fun e w' => e = .returned (.bool (decide (d < 24))) ∧ w2 = w' by rw [← hl3]; exact rhas_any h)
  have HS := Lib.hid hs
  have hw : wrap64 (a + d) = s := by rw [hs]; exact HW.out
  clear q0 q1 q2 q3 hT hT2 o1 o2 hl3 hr' hs
  go_wp2_with (go_at_call 10; (with_reducible (refine HN.out.mono ?_)); rintro e w2 ⟨g, rfl, h2, b2, hg⟩)
  have HB := Lib.hid (And.intro (b1.trans (b2.mono b1.size)) (Nat.le_trans b1.size hg))
  clear b1 b2 hg
  go_wp2_with fail
  refine (H1.out _ _ h2).mono ?_
  rintro e w3 ⟨rfl, h3, t3⟩
  go_wp2_with fail
  refine (H2.out _ _ h3).mono ?_
  rintro e w4 ⟨rfl, h4, t4⟩
  go_wp2_with fail
  refine (H3.out _ _ h4).mono ?_
  rintro e w5 ⟨rfl, h5, t5⟩
  have HT := Lib.hid (below_reg HB.out.1 (t3.trans (t4.trans t5)) HB.out.2)
  have HH2 := Lib.hid (HH.out _ _ h5)
  clear h2 h3 h4 h5 t3 t4 t5
  go_wp2_with (go_at_call 14; (with_reducible (refine HH2.out.mono ?_)); rintro e w' ⟨rfl, rfl⟩)
  go_ret
  exact ⟨by simp, HT.out⟩

set_option maxRecDepth 100000 in
theorem liftedRegisLeaves (os : Os) (started : os.Started) (H : Type) (enc : TypeId × Value → H) :
    ReturnsInHanded {} Try.checked os 6 .any (Rows.regisLeavesSpec.pre6 enc Try.prog Try.f6 Rows.regisLeavesRow.domain false) (Rows.regisLeavesSpec.post enc Try.prog Try.f6 false true false false) := by
  refine returnsInHanded_of_change (C := Try.checked) own started (by kernel_rfl) Try.func6
    (ChangeSpec.witness6 (enc := enc) (C := Try.checked) false ⟨#[], #[.int .i64 0, .int .i64 0], []⟩ 8 (by kernel_rfl) (by kernel_rfl) (by kernel_rfl) (by kernel_rfl)) ?_
  intro W base args ds gs before hval0 hW hcnd _
  have hval : ∀ (j : Nat) t v, Try.f6.params[j]? = some t → args[j]? = some v → Value.okWide Try.prog W .any base t v := hval0
  have hW' := hW
  obtain ⟨p, q, hA0, hV, rfl, hfz, hnd⟩ := hW
  have hA : DataW.TrodAll enc Try.prog W 0 (fun _ => true) true Try.f6.params.toList args.toList ds p := hA0
  rw [Try.params6] at hA hval
  obtain ⟨v0, vs0, d0, ds0, p0, q0, hargs, rfl, rfl, h0, r0⟩ := trodAll_cons hA
  obtain ⟨v1, vs1, d1, ds1, p1, q1, rfl, rfl, rfl, h1, r1⟩ := trodAll_cons r0
  obtain ⟨rfl, rfl, rfl⟩ := trodAll_nil r1
  obtain rfl : args = #[v0, v1] := by cases args; simp_all
  obtain ⟨rfl, rfl⟩ := trodVars_none hV
  obtain ⟨a0, rfl, rfl, rfl, w0⟩ := open_int Try.underlying3 (hval 0 3 v0 rfl rfl) h0
  obtain ⟨a1, rfl, rfl, rfl, w1⟩ := open_int Try.underlying3 (hval 1 3 v1 rfl rfl) h1
  clear hA0 hval0
  refine (walkRegisLeaves a0 a1 W w0 w1).mono fun e W' ⟨he, bel⟩ => ?_
  subst he
  exact ⟨_, rfl, _, _, _, [], _, [], hW', trodAll_mk1 (shut_bool Try.underlying4 _), (trodAll_cons_mk (shut_int Try.underlying3 w0) (trodAll_cons_mk (shut_int Try.underlying3 w1) trodAll_mk0)), rfl, bel.frame _, fun h => by cases h⟩

theorem overRegisLeaves : Rows.regisLeavesRow.holds Try.pinned (OpenSpec.ofChange Rows.regisLeavesSpec) :=
  OpenClaim.holds_of_wide 6 Try.f6 rfl rfl rfl rfl rfl rfl rfl ⟨rfl, rfl, rfl, rfl, rfl⟩ rfl rfl rfl rfl rfl (by kernel_rfl) Try.func6 (by kernel_rfl)
    (of_decide_eq_true (by kernel_rfl)) (by unfold Func.isWrapper; first | (rw [if_pos (by decide +kernel)]; kernel_rfl) | (rw [if_neg (by decide +kernel)]; exact ⟨rfl, rfl⟩))
    (fun os started H enc _ => liftedRegisLeaves os started H enc)

/-- The statement. -/
theorem regisLeaves_holds : Rows.RegisLeavesSaid := overRegisLeaves

#print axioms regisLeaves_holds
end Go.Proofs.Ytoiapdcleagepaa
