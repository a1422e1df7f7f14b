/- CostSums: Sum answers the sum, those below 0 as 0, and the greatest number beyond it; in which order plays no part. No condition. -/
import Derived.Test.YtglgkgpflindjaaOf
import Derived.Test.YtglgkgpflindjaaFrame
import Derived.Test.YtglgkgpflindjaaRows
import Derived.Test.YtglgkgpflindjaaChecked
namespace Go.Proofs.Ytglgkgpflindjaa
open Go.ChangeShapes Go.WideShapes Go.ChangeAt Go.RowKit

/-- The sum as it is to be. -/
def sumS (a b : Int) : Int := if 9223372036854775807 < max a 0 + max b 0 then 9223372036854775807 else max a 0 + max b 0
theorem sumS_comm (a b : Int) : sumS a b = sumS b a := by unfold sumS; rw [Int.add_comm]

theorem ret_int {k : IntKind} {a b : Int} (h : a = b) : Ending.returned (.int k a) = .returned (.int k b) := by rw [h]

set_option maxHeartbeats 1000000 in
theorem sum_any (a b : Int) (wa : (Lit.int .i64 a).wf = true) (wb : (Lit.int .i64 b).wf = true) (w : World) :
    Calls Try.prog 17 #[.int .i64 a, .int .i64 b] w fun e w' => e = .returned (.int .i64 (sumS a b)) ∧ w = w' := by
  have ha : -9223372036854775808 ≤ a ∧ a ≤ 9223372036854775807 := by simpa [Lit.wf, IntKind.min, IntKind.max, IntKind.signed, IntKind.bits] using wa
  have hb : -9223372036854775808 ≤ b ∧ b ≤ 9223372036854775807 := by simpa [Lit.wf, IntKind.min, IntKind.max, IntKind.signed, IntKind.bits] using wb
  clear wa wb
  go_enter Try.func17, Try.ntmps17
  go_wp2
  all_goals
    go_ret
    refine ⟨ret_int ?_, rfl⟩
    unfold sumS
    (repeat' split)
    all_goals omega

set_option maxHeartbeats 2000000 in
theorem walkCostSums (a b : Int) (w : World) (wa : (Lit.int .i64 a).wf = true) (wb : (Lit.int .i64 b).wf = true) :
    Calls Try.prog 6 #[.int .i64 a, .int .i64 b] w fun e w' => e = .returned (.bool true) ∧ Below w.heap.size w w' := by
  have ha : -9223372036854775808 ≤ a ∧ a ≤ 9223372036854775807 := by simpa [Lit.wf, IntKind.min, IntKind.max, IntKind.signed, IntKind.bits] using wa
  have hb : -9223372036854775808 ≤ b ∧ b ≤ 9223372036854775807 := by simpa [Lit.wf, IntKind.min, IntKind.max, IntKind.signed, IntKind.bits] using wb
  obtain ⟨v, hv⟩ : ∃ v, Hid (sumS a b = v) := ⟨_, Lib.hid rfl⟩
  have hv' : Hid (sumS b a = v) := Lib.hid (by rw [sumS_comm]; exact hv.out)
  have W := Lib.hid (show ((Lit.int .i64 a).wf = true ∧ (Lit.int .i64 b).wf = true) = True from eq_true ⟨wa, wb⟩)
  clear wa wb
  have hcase : v = (if a < 0 then 0 else a) + (if b < 0 then 0 else b) ∧ (if a < 0 then 0 else a) + (if b < 0 then 0 else b) ≤ 9223372036854775807 ∨ v = 9223372036854775807 ∧ 0 ≤ a ∧ 0 ≤ b ∧ 9223372036854775807 < a + b := by
    rw [← hv.out]
    unfold sumS
    (repeat' split)
    all_goals omega
  by_cases h1 : a < 0
  · by_cases h2 : b < 0
    · obtain rfl : v = 0 := by
        rcases hcase with ⟨h, h'⟩ | ⟨h, h3, h4, h5⟩
        · rw [if_pos h1, if_pos h2] at h; omega
        · omega
      clear hcase
      go_enter Try.func6, Try.ntmps6
      go_wp2_with fail
      refine (alive_any _).mono ?_
      rintro e w1 ⟨rfl, b1⟩
      go_wp2_with (go_at_call 17; (first
        | (with_reducible (refine (sum_any a b (of_eq_true W.out).1 (of_eq_true W.out).2 _).mono ?_); rw [hv.out])
        | (with_reducible (refine (sum_any b a (of_eq_true W.out).2 (of_eq_true W.out).1 _).mono ?_); rw [hv'.out])); rintro e w' ⟨rfl, rfl⟩)
      go_ret
      exact ⟨rfl, b1⟩
    · obtain rfl : b = v := by
        rcases hcase with ⟨h, h'⟩ | ⟨h, h3, h4, h5⟩
        · rw [if_pos h1, if_neg h2] at h; omega
        · omega
      clear hcase
      go_enter Try.func6, Try.ntmps6
      go_wp2_with fail
      refine (alive_any _).mono ?_
      rintro e w1 ⟨rfl, b1⟩
      go_wp2_with (go_at_call 17; (first
        | (with_reducible (refine (sum_any a b (of_eq_true W.out).1 (of_eq_true W.out).2 _).mono ?_); rw [hv.out])
        | (with_reducible (refine (sum_any b a (of_eq_true W.out).2 (of_eq_true W.out).1 _).mono ?_); rw [hv'.out])); rintro e w' ⟨rfl, rfl⟩)
      go_ret
      exact ⟨rfl, b1⟩
  · by_cases h2 : b < 0
    · obtain rfl : a = v := by
        rcases hcase with ⟨h, h'⟩ | ⟨h, h3, h4, h5⟩
        · rw [if_neg h1, if_pos h2] at h; omega
        · omega
      clear hcase
      go_enter Try.func6, Try.ntmps6
      go_wp2_with fail
      refine (alive_any _).mono ?_
      rintro e w1 ⟨rfl, b1⟩
      go_wp2_with (go_at_call 17; (first
        | (with_reducible (refine (sum_any a b (of_eq_true W.out).1 (of_eq_true W.out).2 _).mono ?_); rw [hv.out])
        | (with_reducible (refine (sum_any b a (of_eq_true W.out).2 (of_eq_true W.out).1 _).mono ?_); rw [hv'.out])); rintro e w' ⟨rfl, rfl⟩)
      go_ret
      exact ⟨rfl, b1⟩
    · rcases hcase with ⟨h, h'⟩ | ⟨rfl, h3, h4, h5⟩
      · rw [if_neg h1, if_neg h2] at h h'
        subst h
        have hw : wrap64 (a + b) = a + b := IntWalk.wrap64_in _ (by omega)
        have hn : 0 ≤ a + b := by omega
        clear h'
        go_enter Try.func6, Try.ntmps6
        go_wp2_with fail
        refine (alive_any _).mono ?_
        rintro e w1 ⟨rfl, b1⟩
        go_wp2_with (go_at_call 17; (first
          | (with_reducible (refine (sum_any a b (of_eq_true W.out).1 (of_eq_true W.out).2 _).mono ?_); rw [hv.out])
          | (with_reducible (refine (sum_any b a (of_eq_true W.out).2 (of_eq_true W.out).1 _).mono ?_); rw [hv'.out])); rintro e w' ⟨rfl, rfl⟩)
        go_ret
        exact ⟨rfl, b1⟩
      · have hw : wrap64 (a + b) = a + b - 18446744073709551616 := by
          unfold wrap64
          omega
        have hn : a + b - 18446744073709551616 < 0 := by omega
        clear h3 h4 h5
        go_enter Try.func6, Try.ntmps6
        go_wp2_with fail
        refine (alive_any _).mono ?_
        rintro e w1 ⟨rfl, b1⟩
        go_wp2_with (go_at_call 17; (first
          | (with_reducible (refine (sum_any a b (of_eq_true W.out).1 (of_eq_true W.out).2 _).mono ?_); rw [hv.out])
          | (with_reducible (refine (sum_any b a (of_eq_true W.out).2 (of_eq_true W.out).1 _).mono ?_); rw [hv'.out])); rintro e w' ⟨rfl, rfl⟩)
        go_ret
        exact ⟨rfl, b1⟩

set_option maxRecDepth 100000 in
theorem liftedCostSums (os : Os) (started : os.Started) (H : Type) (enc : TypeId × Value → H) :
    ReturnsInHanded {} Try.checked os 6 .any (Rows.costSumsSpec.pre6 enc Try.prog Try.f6 Rows.costSumsRow.domain false) (Rows.costSumsSpec.post enc Try.prog Try.f6 false true false false) := by
  refine returnsInHanded_of_change (C := Try.checked) own started (by kernel_rfl) Try.func6
    (ChangeSpec.witness6 (enc := enc) (C := Try.checked) false ⟨#[], #[.int .i64 0, .int .i64 0], []⟩ 8 (by kernel_rfl) (by kernel_rfl) (by kernel_rfl) (by kernel_rfl)) ?_
  intro W base args ds gs before hval0 hW hcnd _
  have hval : ∀ (j : Nat) t v, Try.f6.params[j]? = some t → args[j]? = some v → Value.okWide Try.prog W .any base t v := hval0
  have hW' := hW
  obtain ⟨p, q, hA0, hV, rfl, hfz, hnd⟩ := hW
  have hA : DataW.TrodAll enc Try.prog W 0 (fun _ => true) true Try.f6.params.toList args.toList ds p := hA0
  rw [Try.params6] at hA hval
  obtain ⟨v0, vs0, d0, ds0, p0, q0, hargs, rfl, rfl, h0, r0⟩ := trodAll_cons hA
  obtain ⟨v1, vs1, d1, ds1, p1, q1, rfl, rfl, rfl, h1, r1⟩ := trodAll_cons r0
  obtain ⟨rfl, rfl, rfl⟩ := trodAll_nil r1
  obtain rfl : args = #[v0, v1] := by cases args; simp_all
  obtain ⟨rfl, rfl⟩ := trodVars_none hV
  obtain ⟨a0, rfl, rfl, rfl, w0⟩ := open_int Try.underlying3 (hval 0 3 v0 rfl rfl) h0
  obtain ⟨a1, rfl, rfl, rfl, w1⟩ := open_int Try.underlying3 (hval 1 3 v1 rfl rfl) h1
  clear hA0 hval0
  refine (walkCostSums a0 a1 W w0 w1).mono fun e W' ⟨he, bel⟩ => ?_
  subst he
  exact ⟨_, rfl, _, _, _, [], _, [], hW', trodAll_mk1 (shut_bool Try.underlying4 _), (trodAll_cons_mk (shut_int Try.underlying3 w0) (trodAll_cons_mk (shut_int Try.underlying3 w1) trodAll_mk0)), rfl, bel.frame _, fun h => by cases h⟩

theorem overCostSums : Rows.costSumsRow.holds Try.pinned (OpenSpec.ofChange Rows.costSumsSpec) :=
  OpenClaim.holds_of_wide 6 Try.f6 rfl rfl rfl rfl rfl rfl rfl ⟨rfl, rfl, rfl, rfl, rfl⟩ rfl rfl rfl rfl rfl (by kernel_rfl) Try.func6 (by kernel_rfl)
    (of_decide_eq_true (by kernel_rfl)) (by unfold Func.isWrapper; first | (rw [if_pos (by decide +kernel)]; kernel_rfl) | (rw [if_neg (by decide +kernel)]; exact ⟨rfl, rfl⟩))
    (fun os started H enc _ => liftedCostSums os started H enc)

/-- The statement. -/
theorem costSums_holds : Rows.CostSumsSaid := overCostSums

end Go.Proofs.Ytglgkgpflindjaa
