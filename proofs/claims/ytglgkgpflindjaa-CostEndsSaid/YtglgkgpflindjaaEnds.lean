/- CostEnds: each number from 1 to MaxCost is between the costs of the speed that it tells, and of the next greater one. No condition. -/
import Derived.Test.YtglgkgpflindjaaFind
import Derived.Test.YtglgkgpflindjaaFrame
import Derived.Test.YtglgkgpflindjaaRows
import Derived.Test.YtglgkgpflindjaaChecked
namespace Go.Proofs.Ytglgkgpflindjaa
open Go.ChangeShapes Go.WideShapes Go.ChangeAt Go.RowKit

/-- What the statement asks of one speed, of plain functions. -/
theorem ends_plain {c : Int} {k : Nat} (hc : 2 ≤ c) (hc' : c ≤ 16777216) (hs : Fl.Spd c k) :
    ∃ p t, Ieee.double.mul k Fl.upR = some p ∧ Ieee.double.add p Fl.tinyR = some t ∧ t ≤ Fl.infR ∧ (Fl.costB t : Int) ≤ c := by
  have hi : Fl.topR < Fl.infR := by decide
  have ho : Fl.oneR < Fl.infR := by decide
  have h1 := hs.here
  have hki : k < Fl.infR := by
    rcases Nat.lt_or_eq_of_le hs.le with h | h
    · exact h
    · rw [h, Fl.cost_inf] at h1
      omega
  have hnx : (Fl.costB (k + 1) : Int) < c := by
    rcases hs.next with h | h
    · omega
    · exact h
  have hk1 : Fl.oneR ≤ k := by
    by_cases h : Fl.oneR ≤ k
    · exact h
    · have h2 := Fl.costB_low (show k + 1 ≤ Fl.oneR by omega) (by omega)
      rw [Fl.cost_one] at h2
      omega
  have hk2 : k < Fl.topR := by
    by_cases h : k < Fl.topR
    · exact h
    · have h2 := Fl.costB_low (show Fl.topR ≤ k by omega) hs.le
      rw [Fl.cost_top] at h2
      omega
  obtain ⟨p, t, hm, ha, hkt, hti⟩ := Fl.greater hk1 hk2
  have h3 := Fl.costB_low hkt hti
  exact ⟨p, t, hm, ha, hti, by omega⟩
/-- And of two. -/
theorem ends_two {c : Int} {k k' : Nat} (hs : Fl.Spd c k) (hs' : Fl.Spd (c - 1) k') : k ≤ k' := by
  rcases hs'.next with h | h
  · rw [h]; exact hs.le
  · by_cases hkk : k ≤ k'
    · exact hkk
    · have h4 := Fl.costB_low (show k' + 1 ≤ k by omega) hs.le
      have h1 := hs.here
      omega

set_option linter.unusedSimpArgs false in
set_option maxHeartbeats 1000000 in
theorem walkCostEnds (c : Int) (w : World) (_ : (Lit.int .i64 c).wf = true) :
    Calls Try.prog 8 #[.int .i64 c] w fun e w' => e = .returned (.bool true) ∧ Below w.heap.size w w' := by
  by_cases hr : c < 2 ∨ 16777216 < c
  · rcases hr with hr | hr
    all_goals
      go_enter Try.func8, Try.ntmps8
      go_wp2_with fail
      refine (alive_any _).mono ?_
      rintro e w1 ⟨rfl, b1⟩
      go_wp2
      go_ret
      exact ⟨rfl, b1⟩
  · have hc2 : 2 ≤ c := by omega
    have hc3 : c ≤ 16777216 := by omega
    clear hr
    go_enter Try.func8, Try.ntmps8
    go_wp2_with fail
    refine (alive_any _).mono ?_
    rintro e w1 ⟨rfl, b1⟩
    go_wp2_with fail
    refine (speed_any c _).mono ?_
    rintro e w2 ⟨k, rfl, b2, hk⟩
    have hs : Fl.Spd c k := by
      rcases hk with ⟨h, _⟩ | ⟨_, _, h⟩
      · omega
      · exact h
    have B : Hid (Below w.heap.size w w2 = True) := Lib.hid (eq_true (b1.trans (b2.mono b1.size)))
    clear b1 b2 hk
    obtain ⟨p, t, hm, ha, hti, htc⟩ := ends_plain hc2 hc3 hs
    have hhe := hs.here
    have hb1 : k < 18446744073709551616 := Nat.lt_of_le_of_lt hs.le (by decide)
    have hb2 : t < 18446744073709551616 := Nat.lt_of_le_of_lt hti (by decide)
    have HK := Lib.hid (show (Fl.Spd c k ∧ k < 18446744073709551616 ∧ t < 18446744073709551616 ∧ 2 ≤ c ∧ c ≤ 16777216) = True from eq_true ⟨hs, hb1, hb2, hc2, hc3⟩)
    obtain ⟨x, hx⟩ : ∃ x, Hid (Fl.costB k = x) := ⟨_, Lib.hid rfl⟩
    obtain ⟨y, hy⟩ : ∃ y, Hid (Fl.costB t = y) := ⟨_, Lib.hid rfl⟩
    rw [hx.out] at hhe
    rw [hy.out] at htc
    have l1 : ∀ w, (binOp .mul 22 (.float .f64 k) (.float .f64 Fl.upR)).run Try.prog w = .ok (.float .f64 p) w := fun w => run_float_arith w .mul _ .f64 _ _ _ hm
    have l2 : ∀ w, (binOp .add 22 (.float .f64 p) (.float .f64 Fl.tinyR)).run Try.prog w = .ok (.float .f64 t) w := fun w => run_float_arith w .add _ .f64 _ _ _ ha
    clear hs hb1 hb2 hm ha hti
    go_wp2_with (first
      | simp only [l1]
      | simp only [l2]
      | (go_at_call 11; (first | (with_reducible (refine (of_any k (of_eq_true HK.out).2.1 _).mono ?_); rw [hx.out]) | (with_reducible (refine (of_any t (of_eq_true HK.out).2.2.1 _).mono ?_); rw [hy.out])); rintro e w' ⟨rfl, rfl⟩))
    refine (speed_any (c - 1) _).mono ?_
    rintro e w3 ⟨k', rfl, b3, hk'⟩
    obtain ⟨hs, hb1, hb2, g2, g3⟩ := of_eq_true HK.out
    have hs' : Fl.Spd (c - 1) k' := by
      rcases hk' with ⟨h, _⟩ | ⟨_, _, h⟩
      · omega
      · exact h
    have hkk := ends_two hs hs'
    have ho : FloatKind.f64.format.order k' k = some .gt ∨ FloatKind.f64.format.order k' k = some .eq := by
      have := Fl.order_pos hs'.le hs.le
      rcases Nat.lt_or_eq_of_le hkk with h | h
      · rw [Nat.compare_eq_gt.2 h] at this; exact .inl this
      · rw [Nat.compare_eq_eq.2 h.symm] at this; exact .inr this
    have B' : Hid (Below w.heap.size w w3 = True) := Lib.hid (eq_true ((of_eq_true B.out).trans (b3.mono (of_eq_true B.out).size)))
    clear hs hb1 hb2 hs' hkk b3 hk' B
    rcases ho with ho | ho
    all_goals
      go_wp2
      go_ret
      exact ⟨rfl, of_eq_true B'.out⟩

set_option maxRecDepth 100000 in
theorem liftedCostEnds (os : Os) (started : os.Started) (H : Type) (enc : TypeId × Value → H) :
    ReturnsInHanded {} Try.checked os 8 .any (Rows.costEndsSpec.pre6 enc Try.prog Try.f8 Rows.costEndsRow.domain false) (Rows.costEndsSpec.post enc Try.prog Try.f8 false true false false) := by
  refine returnsInHanded_of_change (C := Try.checked) own started (by kernel_rfl) Try.func8
    (ChangeSpec.witness6 (enc := enc) (C := Try.checked) false ⟨#[], #[.int .i64 0], []⟩ 8 (by kernel_rfl) (by kernel_rfl) (by kernel_rfl) (by kernel_rfl)) ?_
  intro W base args ds gs before hval0 hW hcnd _
  have hval : ∀ (j : Nat) t v, Try.f8.params[j]? = some t → args[j]? = some v → Value.okWide Try.prog W .any base t v := hval0
  have hW' := hW
  obtain ⟨p, q, hA0, hV, rfl, hfz, hnd⟩ := hW
  have hA : DataW.TrodAll enc Try.prog W 0 (fun _ => true) true Try.f8.params.toList args.toList ds p := hA0
  rw [Try.params8] at hA hval
  obtain ⟨v0, vs0, d0, ds0, p0, q0, hargs, rfl, rfl, h0, r0⟩ := trodAll_cons hA
  obtain ⟨rfl, rfl, rfl⟩ := trodAll_nil r0
  obtain rfl : args = #[v0] := by cases args; simp_all
  obtain ⟨rfl, rfl⟩ := trodVars_none hV
  obtain ⟨a0, rfl, rfl, rfl, w0⟩ := open_int Try.underlying3 (hval 0 3 v0 rfl rfl) h0
  clear hA0 hval0
  refine (walkCostEnds a0 W w0).mono fun e W' ⟨he, bel⟩ => ?_
  subst he
  exact ⟨_, rfl, _, _, _, [], _, [], hW', trodAll_mk1 (shut_bool Try.underlying4 _), (trodAll_cons_mk (shut_int Try.underlying3 w0) trodAll_mk0), rfl, bel.frame _, fun h => by cases h⟩

theorem overCostEnds : Rows.costEndsRow.holds Try.pinned (OpenSpec.ofChange Rows.costEndsSpec) :=
  OpenClaim.holds_of_wide 8 Try.f8 rfl rfl rfl rfl rfl rfl rfl ⟨rfl, rfl, rfl, rfl, rfl⟩ rfl rfl rfl rfl rfl (by kernel_rfl) Try.func8 (by kernel_rfl)
    (of_decide_eq_true (by kernel_rfl)) (by unfold Func.isWrapper; first | (rw [if_pos (by decide +kernel)]; kernel_rfl) | (rw [if_neg (by decide +kernel)]; exact ⟨rfl, rfl⟩))
    (fun os started H enc _ => liftedCostEnds os started H enc)

/-- The statement. -/
theorem costEnds_holds : Rows.CostEndsSaid := overCostEnds

end Go.Proofs.Ytglgkgpflindjaa
