/- CostIs: Of and Better answer what the document says, of all floats. No condition. -/
import Derived.Test.YtglgkgpflindjaaOf
import Derived.Test.YtglgkgpflindjaaFrame
import Derived.Test.YtglgkgpflindjaaRows
import Derived.Test.YtglgkgpflindjaaChecked
namespace Go.Proofs.Ytglgkgpflindjaa
open Go.ChangeShapes Go.WideShapes Go.ChangeAt Go.RowKit

theorem word_of {a : Nat} (h : (Lit.float .f64 a).wf = true) : a < 18446744073709551616 := by simpa [Lit.wf] using h

set_option linter.unusedSimpArgs false in
set_option maxHeartbeats 1000000 in
theorem walkCostIs (a b : Nat) (w : World) (wa : (Lit.float .f64 a).wf = true) (wb : (Lit.float .f64 b).wf = true) :
    Calls Try.prog 3 #[.float .f64 a, .float .f64 b] w fun e w' => e = .returned (.bool true) ∧ Below w.heap.size w w' := by
  have ha := word_of wa
  have hb := word_of wb
  clear wa wb
  obtain ⟨x, hx⟩ : ∃ x, Hid (Fl.costB a = x) := ⟨_, Lib.hid rfl⟩
  obtain ⟨y, hy⟩ : ∃ y, Hid (Fl.costB b = y) := ⟨_, Lib.hid rfl⟩
  have x1 : 1 ≤ x := by rw [← hx.out]; exact (Fl.costB_in a).1
  have x2 : (x : Int) ≤ 16777216 := by have := (Fl.costB_in a).2; rw [hx.out] at this; omega
  go_enter Try.func3, Try.ntmps3
  go_wp2_with fail
  refine (alive_any _).mono ?_
  rintro e w1 ⟨rfl, b1⟩
  go_wp2_with (first
    | (go_at_call 10; (first | (with_reducible (refine (ofr_any a ha _).mono ?_); rw [hx.out]) | (with_reducible (refine (ofr_any b hb _).mono ?_); rw [hy.out])); rintro e w' ⟨rfl, rfl⟩)
    | (go_at_call 11; (first | (with_reducible (refine (of_any a ha _).mono ?_); rw [hx.out]) | (with_reducible (refine (of_any b hb _).mono ?_); rw [hy.out])); rintro e w' ⟨rfl, rfl⟩)
    | (go_at_call 12; (with_reducible (refine (better_any a b ha hb _).mono ?_)); rw [hx.out, hy.out]; rintro e w' ⟨rfl, rfl⟩))
  all_goals
    go_ret
    exact ⟨rfl, b1⟩

set_option maxRecDepth 100000 in
theorem liftedCostIs (os : Os) (started : os.Started) (H : Type) (enc : TypeId × Value → H) :
    ReturnsInHanded {} Try.checked os 3 .any (Rows.costIsSpec.pre6 enc Try.prog Try.f3 Rows.costIsRow.domain false) (Rows.costIsSpec.post enc Try.prog Try.f3 false true false false) := by
  refine returnsInHanded_of_change (C := Try.checked) own started (by kernel_rfl) Try.func3
    (ChangeSpec.witness6 (enc := enc) (C := Try.checked) false ⟨#[], #[.float .f64 0, .float .f64 0], []⟩ 8 (by kernel_rfl) (by kernel_rfl) (by kernel_rfl) (by kernel_rfl)) ?_
  intro W base args ds gs before hval0 hW hcnd _
  have hval : ∀ (j : Nat) t v, Try.f3.params[j]? = some t → args[j]? = some v → Value.okWide Try.prog W .any base t v := hval0
  have hW' := hW
  obtain ⟨p, q, hA0, hV, rfl, hfz, hnd⟩ := hW
  have hA : DataW.TrodAll enc Try.prog W 0 (fun _ => true) true Try.f3.params.toList args.toList ds p := hA0
  rw [Try.params3] at hA hval
  obtain ⟨v0, vs0, d0, ds0, p0, q0, hargs, rfl, rfl, h0, r0⟩ := trodAll_cons hA
  obtain ⟨v1, vs1, d1, ds1, p1, q1, rfl, rfl, rfl, h1, r1⟩ := trodAll_cons r0
  obtain ⟨rfl, rfl, rfl⟩ := trodAll_nil r1
  obtain rfl : args = #[v0, v1] := by cases args; simp_all
  obtain ⟨rfl, rfl⟩ := trodVars_none hV
  obtain ⟨a0, rfl, rfl, rfl, w0⟩ := open_float Try.underlying22 (hval 0 22 v0 rfl rfl) h0
  obtain ⟨a1, rfl, rfl, rfl, w1⟩ := open_float Try.underlying22 (hval 1 22 v1 rfl rfl) h1
  clear hA0 hval0
  refine (walkCostIs a0 a1 W w0 w1).mono fun e W' ⟨he, bel⟩ => ?_
  subst he
  exact ⟨_, rfl, _, _, _, [], _, [], hW', trodAll_mk1 (shut_bool Try.underlying4 _), (trodAll_cons_mk (shut_float Try.underlying22 w0) (trodAll_cons_mk (shut_float Try.underlying22 w1) trodAll_mk0)), rfl, bel.frame _, fun h => by cases h⟩

theorem overCostIs : Rows.costIsRow.holds Try.pinned (OpenSpec.ofChange Rows.costIsSpec) :=
  OpenClaim.holds_of_wide 3 Try.f3 rfl rfl rfl rfl rfl rfl rfl ⟨rfl, rfl, rfl, rfl, rfl⟩ rfl rfl rfl rfl rfl (by kernel_rfl) Try.func3 (by kernel_rfl)
    (of_decide_eq_true (by kernel_rfl)) (by unfold Func.isWrapper; first | (rw [if_pos (by decide +kernel)]; kernel_rfl) | (rw [if_neg (by decide +kernel)]; exact ⟨rfl, rfl⟩))
    (fun os started H enc _ => liftedCostIs os started H enc)

/-- The statement. -/
theorem costIs_holds : Rows.CostIsSaid := overCostIs

end Go.Proofs.Ytglgkgpflindjaa
