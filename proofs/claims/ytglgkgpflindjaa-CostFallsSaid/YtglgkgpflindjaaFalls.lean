/- CostFalls: a speed that is greater never costs more. No condition. -/
import Derived.Test.YtglgkgpflindjaaIs
import Derived.Test.YtglgkgpflindjaaFrame
import Derived.Test.YtglgkgpflindjaaRows
import Derived.Test.YtglgkgpflindjaaChecked
namespace Go.Proofs.Ytglgkgpflindjaa
open Go.ChangeShapes Go.WideShapes Go.ChangeAt Go.RowKit

set_option maxHeartbeats 1000000 in
theorem walkCostFalls (a b : Nat) (w : World) (wa : (Lit.float .f64 a).wf = true) (wb : (Lit.float .f64 b).wf = true) :
    Calls Try.prog 4 #[.float .f64 a, .float .f64 b] w fun e w' => e = .returned (.bool true) ∧ Below w.heap.size w w' := by
  have ha := word_of wa
  have hb := word_of wb
  clear wa wb
  obtain ⟨x, hx⟩ : ∃ x, Hid (Fl.costB a = x) := ⟨_, Lib.hid rfl⟩
  obtain ⟨y, hy⟩ : ∃ y, Hid (Fl.costB b = y) := ⟨_, Lib.hid rfl⟩
  have hd : Hid (FloatKind.f64.format.order a b = some .lt → y ≤ x) := Lib.hid (fun h => by rw [← hx.out, ← hy.out]; exact Fl.costB_down hb h)
  obtain ⟨o, ho⟩ : ∃ o, FloatKind.f64.format.order a b = o := ⟨_, rfl⟩
  rw [ho] at hd
  by_cases hlt : o = some .lt
  · have hle : y ≤ x := hd.out hlt
    subst hlt
    go_enter Try.func4, Try.ntmps4
    go_wp2_with fail
    refine (alive_any _).mono ?_
    rintro e w1 ⟨rfl, b1⟩
    go_wp2_with (go_at_call 11; (first | (with_reducible (refine (of_any a ha _).mono ?_); rw [hx.out]) | (with_reducible (refine (of_any b hb _).mono ?_); rw [hy.out])); rintro e w' ⟨rfl, rfl⟩)
    go_ret
    exact ⟨rfl, b1⟩
  · have hne : (o == some .lt) = false := by simpa using hlt
    clear hlt
    go_enter Try.func4, Try.ntmps4
    go_wp2_with fail
    refine (alive_any _).mono ?_
    rintro e w1 ⟨rfl, b1⟩
    go_wp2_with (go_at_call 11; (first | (with_reducible (refine (of_any a ha _).mono ?_); rw [hx.out]) | (with_reducible (refine (of_any b hb _).mono ?_); rw [hy.out])); rintro e w' ⟨rfl, rfl⟩)
    go_ret
    exact ⟨rfl, b1⟩

set_option maxRecDepth 100000 in
theorem liftedCostFalls (os : Os) (started : os.Started) (H : Type) (enc : TypeId × Value → H) :
    ReturnsInHanded {} Try.checked os 4 .any (Rows.costFallsSpec.pre6 enc Try.prog Try.f4 Rows.costFallsRow.domain false) (Rows.costFallsSpec.post enc Try.prog Try.f4 false true false false) := by
  refine returnsInHanded_of_change (C := Try.checked) own started (by kernel_rfl) Try.func4
    (ChangeSpec.witness6 (enc := enc) (C := Try.checked) false ⟨#[], #[.float .f64 0, .float .f64 0], []⟩ 8 (by kernel_rfl) (by kernel_rfl) (by kernel_rfl) (by kernel_rfl)) ?_
  intro W base args ds gs before hval0 hW hcnd _
  have hval : ∀ (j : Nat) t v, Try.f4.params[j]? = some t → args[j]? = some v → Value.okWide Try.prog W .any base t v := hval0
  have hW' := hW
  obtain ⟨p, q, hA0, hV, rfl, hfz, hnd⟩ := hW
  have hA : DataW.TrodAll enc Try.prog W 0 (fun _ => true) true Try.f4.params.toList args.toList ds p := hA0
  rw [Try.params4] at hA hval
  obtain ⟨v0, vs0, d0, ds0, p0, q0, hargs, rfl, rfl, h0, r0⟩ := trodAll_cons hA
  obtain ⟨v1, vs1, d1, ds1, p1, q1, rfl, rfl, rfl, h1, r1⟩ := trodAll_cons r0
  obtain ⟨rfl, rfl, rfl⟩ := trodAll_nil r1
  obtain rfl : args = #[v0, v1] := by cases args; simp_all
  obtain ⟨rfl, rfl⟩ := trodVars_none hV
  obtain ⟨a0, rfl, rfl, rfl, w0⟩ := open_float Try.underlying22 (hval 0 22 v0 rfl rfl) h0
  obtain ⟨a1, rfl, rfl, rfl, w1⟩ := open_float Try.underlying22 (hval 1 22 v1 rfl rfl) h1
  clear hA0 hval0
  refine (walkCostFalls a0 a1 W w0 w1).mono fun e W' ⟨he, bel⟩ => ?_
  subst he
  exact ⟨_, rfl, _, _, _, [], _, [], hW', trodAll_mk1 (shut_bool Try.underlying4 _), (trodAll_cons_mk (shut_float Try.underlying22 w0) (trodAll_cons_mk (shut_float Try.underlying22 w1) trodAll_mk0)), rfl, bel.frame _, fun h => by cases h⟩

theorem overCostFalls : Rows.costFallsRow.holds Try.pinned (OpenSpec.ofChange Rows.costFallsSpec) :=
  OpenClaim.holds_of_wide 4 Try.f4 rfl rfl rfl rfl rfl rfl rfl ⟨rfl, rfl, rfl, rfl, rfl⟩ rfl rfl rfl rfl rfl (by kernel_rfl) Try.func4 (by kernel_rfl)
    (of_decide_eq_true (by kernel_rfl)) (by unfold Func.isWrapper; first | (rw [if_pos (by decide +kernel)]; kernel_rfl) | (rw [if_neg (by decide +kernel)]; exact ⟨rfl, rfl⟩))
    (fun os started H enc _ => liftedCostFalls os started H enc)

/-- The statement. -/
theorem costFalls_holds : Rows.CostFallsSaid := overCostFalls

end Go.Proofs.Ytglgkgpflindjaa
