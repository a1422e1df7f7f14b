/- CostOrder: Better is an order of speeds: none is better than itself, of two at most one is, and what is better than a better one is better. No condition. -/
import Derived.Test.YtglgkgpflindjaaIs
import Derived.Test.YtglgkgpflindjaaFrame
import Derived.Test.YtglgkgpflindjaaRows
import Derived.Test.YtglgkgpflindjaaChecked
namespace Go.Proofs.Ytglgkgpflindjaa
open Go.ChangeShapes Go.WideShapes Go.ChangeAt Go.RowKit

set_option maxHeartbeats 2000000 in
theorem walkCostOrder (a b c : Nat) (w : World) (wa : (Lit.float .f64 a).wf = true) (wb : (Lit.float .f64 b).wf = true) (wc : (Lit.float .f64 c).wf = true) :
    Calls Try.prog 7 #[.float .f64 a, .float .f64 b, .float .f64 c] w fun e w' => e = .returned (.bool true) ∧ Below w.heap.size w w' := by
  have ha := word_of wa
  have hb := word_of wb
  have hc := word_of wc
  clear wa wb wc
  obtain ⟨p, hp⟩ : ∃ p, Hid (decide (Fl.costB a < Fl.costB b) = p) := ⟨_, Lib.hid rfl⟩
  obtain ⟨q, hq⟩ : ∃ q, Hid (decide (Fl.costB b < Fl.costB a) = q) := ⟨_, Lib.hid rfl⟩
  obtain ⟨r, hr⟩ : ∃ r, Hid (decide (Fl.costB b < Fl.costB c) = r) := ⟨_, Lib.hid rfl⟩
  obtain ⟨s, hs⟩ : ∃ s, Hid (decide (Fl.costB a < Fl.costB c) = s) := ⟨_, Lib.hid rfl⟩
  have hz : Hid (decide (Fl.costB a < Fl.costB a) = false) := Lib.hid (by simp)
  have hpq : p = true → q = false := fun h => by
    have h1 := of_decide_eq_true (hp.out.trans h)
    exact hq.out.symm.trans (decide_eq_false (by omega))
  have hprs : p = true → r = true → s = true := fun h h' => by
    have h1 := of_decide_eq_true (hp.out.trans h)
    have h2 := of_decide_eq_true (hr.out.trans h')
    exact hs.out.symm.trans (decide_eq_true (by omega))
  cases p <;> cases q <;> cases r <;> cases s
  all_goals first | (exfalso; revert hpq hprs; decide) | skip
  all_goals clear hpq hprs
  all_goals
    go_enter Try.func7, Try.ntmps7
    go_wp2_with fail
    refine (alive_any _).mono ?_
    rintro e w1 ⟨rfl, b1⟩
    go_wp2_with (go_at_call 12; (first
      | (with_reducible (refine (better_any a a ha ha _).mono ?_); rw [hz.out])
      | (with_reducible (refine (better_any a b ha hb _).mono ?_); rw [hp.out])
      | (with_reducible (refine (better_any b a hb ha _).mono ?_); rw [hq.out])
      | (with_reducible (refine (better_any b c hb hc _).mono ?_); rw [hr.out])
      | (with_reducible (refine (better_any a c ha hc _).mono ?_); rw [hs.out])); rintro e w' ⟨rfl, rfl⟩)
    go_ret
    exact ⟨rfl, b1⟩

set_option maxRecDepth 100000 in
theorem liftedCostOrder (os : Os) (started : os.Started) (H : Type) (enc : TypeId × Value → H) :
    ReturnsInHanded {} Try.checked os 7 .any (Rows.costOrderSpec.pre6 enc Try.prog Try.f7 Rows.costOrderRow.domain false) (Rows.costOrderSpec.post enc Try.prog Try.f7 false true false false) := by
  refine returnsInHanded_of_change (C := Try.checked) own started (by kernel_rfl) Try.func7
    (ChangeSpec.witness6 (enc := enc) (C := Try.checked) false ⟨#[], #[.float .f64 0, .float .f64 0, .float .f64 0], []⟩ 8 (by kernel_rfl) (by kernel_rfl) (by kernel_rfl) (by kernel_rfl)) ?_
  intro W base args ds gs before hval0 hW hcnd _
  have hval : ∀ (j : Nat) t v, Try.f7.params[j]? = some t → args[j]? = some v → Value.okWide Try.prog W .any base t v := hval0
  have hW' := hW
  obtain ⟨p, q, hA0, hV, rfl, hfz, hnd⟩ := hW
  have hA : DataW.TrodAll enc Try.prog W 0 (fun _ => true) true Try.f7.params.toList args.toList ds p := hA0
  rw [Try.params7] at hA hval
  obtain ⟨v0, vs0, d0, ds0, p0, q0, hargs, rfl, rfl, h0, r0⟩ := trodAll_cons hA
  obtain ⟨v1, vs1, d1, ds1, p1, q1, rfl, rfl, rfl, h1, r1⟩ := trodAll_cons r0
  obtain ⟨v2, vs2, d2, ds2, p2, q2, rfl, rfl, rfl, h2, r2⟩ := trodAll_cons r1
  obtain ⟨rfl, rfl, rfl⟩ := trodAll_nil r2
  obtain rfl : args = #[v0, v1, v2] := by cases args; simp_all
  obtain ⟨rfl, rfl⟩ := trodVars_none hV
  obtain ⟨a0, rfl, rfl, rfl, w0⟩ := open_float Try.underlying22 (hval 0 22 v0 rfl rfl) h0
  obtain ⟨a1, rfl, rfl, rfl, w1⟩ := open_float Try.underlying22 (hval 1 22 v1 rfl rfl) h1
  obtain ⟨a2, rfl, rfl, rfl, w2⟩ := open_float Try.underlying22 (hval 2 22 v2 rfl rfl) h2
  clear hA0 hval0
  refine (walkCostOrder a0 a1 a2 W w0 w1 w2).mono fun e W' ⟨he, bel⟩ => ?_
  subst he
  exact ⟨_, rfl, _, _, _, [], _, [], hW', trodAll_mk1 (shut_bool Try.underlying4 _), (trodAll_cons_mk (shut_float Try.underlying22 w0) (trodAll_cons_mk (shut_float Try.underlying22 w1) (trodAll_cons_mk (shut_float Try.underlying22 w2) trodAll_mk0))), rfl, bel.frame _, fun h => by cases h⟩

theorem overCostOrder : Rows.costOrderRow.holds Try.pinned (OpenSpec.ofChange Rows.costOrderSpec) :=
  OpenClaim.holds_of_wide 7 Try.f7 rfl rfl rfl rfl rfl rfl rfl ⟨rfl, rfl, rfl, rfl, rfl⟩ rfl rfl rfl rfl rfl (by kernel_rfl) Try.func7 (by kernel_rfl)
    (of_decide_eq_true (by kernel_rfl)) (by unfold Func.isWrapper; first | (rw [if_pos (by decide +kernel)]; kernel_rfl) | (rw [if_neg (by decide +kernel)]; exact ⟨rfl, rfl⟩))
    (fun os started H enc _ => liftedCostOrder os started H enc)

/-- The statement. -/
theorem costOrder_holds : Rows.CostOrderSaid := overCostOrder

end Go.Proofs.Ytglgkgpflindjaa
