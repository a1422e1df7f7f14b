/- CostSpeeds: Speed answers the greatest speed that costs so much, or more; the next greater float costs less; of what is no cost 0. No condition. -/
import Derived.Test.YtglgkgpflindjaaFind
import Derived.Test.YtglgkgpflindjaaFrame
import Derived.Test.YtglgkgpflindjaaRows
import Derived.Test.YtglgkgpflindjaaChecked
namespace Go.Proofs.Ytglgkgpflindjaa
open Go.ChangeShapes Go.WideShapes Go.ChangeAt Go.RowKit

theorem isinf_any (w : World) :
    Calls Try.prog 14 #[.float .f64 Fl.infR, .int .i64 1] w fun e w' => e = .returned (.bool true) ∧ w = w' := by
  have ho : FloatKind.f64.format.order Fl.infR 9218868437227405311 = some .gt := by
    have := Fl.order_pos (Nat.le_refl Fl.infR) (show 9218868437227405311 ≤ Fl.infR by decide)
    exact this.trans (by decide)
  go_enter Try.func14, Try.ntmps14
  go_wp2
  go_ret
  exact ⟨rfl, rfl⟩

set_option maxHeartbeats 1000000 in
theorem next_any (k : Nat) (h0 : 0 < k) (h1 : k < Fl.infR) (w : World) :
    Calls Try.prog 15 #[.float .f64 k, .float .f64 Fl.infR] w fun e w' => e = .returned (.float .f64 (k + 1)) ∧ w = w' := by
  have o1 : FloatKind.f64.format.order k k = some .eq := Fl.order_self (by omega)
  have o2 : FloatKind.f64.format.order Fl.infR Fl.infR = some .eq := Fl.order_self (Nat.le_refl _)
  have o3 : FloatKind.f64.format.order k Fl.infR = some .lt := by
    have := Fl.order_pos (show k ≤ Fl.infR by omega) (Nat.le_refl Fl.infR)
    rw [Nat.compare_eq_lt.2 h1] at this
    exact this
  have o4 : FloatKind.f64.format.order k 0 = some .gt := Fl.order_gt h0 (by omega)
  have o5 : FloatKind.f64.format.order Fl.infR k = some .gt := by
    have := Fl.order_pos (Nat.le_refl Fl.infR) (show k ≤ Fl.infR by omega)
    rw [Nat.compare_eq_gt.2 h1] at this
    exact this
  have hk : k < 9218868437227405312 := h1
  have hb := call_bits k
  have hf := call_from ((k : Int) + 1)
  rw [show ((k : Int) + 1).toNat = k + 1 by omega] at hf
  have hw : IntKind.u64.wrap ((k : Int) + 1) = (k : Int) + 1 := IntWalk.u64_in _ (by omega)
  clear hk h0 h1
  go_enter Try.func15, Try.ntmps15
  go_wp2_with (go_at_call 19; (first | (with_reducible (refine (isnan_any k _ o1 _).mono ?_)) | (with_reducible (refine (isnan_any Fl.infR _ o2 _).mono ?_))); rintro e w' ⟨rfl, rfl⟩)
  go_ret
  exact ⟨rfl, rfl⟩

set_option linter.unusedSimpArgs false in
set_option maxHeartbeats 1000000 in
theorem walkCostSpeeds (c : Int) (w : World) (_ : (Lit.int .i64 c).wf = true) :
    Calls Try.prog 5 #[.int .i64 c] w fun e w' => e = .returned (.bool true) ∧ Below w.heap.size w w' := by
  have o0 : FloatKind.f64.format.order 0 0 = some .eq := Fl.order_self (by decide)
  go_enter Try.func5, Try.ntmps5
  go_wp2_with fail
  refine (alive_any _).mono ?_
  rintro e w1 ⟨rfl, b1⟩
  go_wp2_with fail
  refine (speed_any c _).mono ?_
  rintro e w2 ⟨k, rfl, b2, hk⟩
  have B : Hid (Below w.heap.size w w2 = True) := Lib.hid (eq_true (b1.trans (b2.mono b1.size)))
  clear b1 b2
  rcases hk with ⟨hc, rfl⟩ | ⟨h1, h2, hs⟩
  · rcases hc with hc | hc
    all_goals
      go_wp2
      go_ret
      exact ⟨rfl, of_eq_true B.out⟩
  · by_cases hc1 : c = 1
    · subst hc1
      obtain rfl : k = Fl.infR := by
        rcases hs.next with h | h
        · exact h
        · have := (Fl.costB_in (k + 1)).1
          omega
      clear hs h1 h2
      go_wp2_with (go_at_call 14; refine (isinf_any _).mono ?_; rintro e w' ⟨rfl, rfl⟩)
      go_ret
      exact ⟨rfl, of_eq_true B.out⟩
    · have hki : k < Fl.infR := by
        rcases Nat.lt_or_eq_of_le hs.le with h | h
        · exact h
        · have := hs.here
          rw [h, Fl.cost_inf] at this
          omega
      have hnx : (Fl.costB (k + 1) : Int) < c := by
        rcases hs.next with h | h
        · omega
        · exact h
      have hk0 : 0 < k := by
        rcases Nat.eq_zero_or_pos k with h | h
        · subst h
          rw [show 0 + 1 = 1 from rfl, Fl.cost_least] at hnx
          omega
        · exact h
      have hb1 : k < 18446744073709551616 := Nat.lt_trans hki (by decide)
      have hb2 : k + 1 < 18446744073709551616 := Nat.lt_of_le_of_lt (show k + 1 ≤ Fl.infR by omega) (by decide)
      have hhe := hs.here
      have d1 : ((c : Int) == 1) = false := by simpa using hc1
      obtain ⟨x, hx⟩ : ∃ x, Hid (Fl.costB k = x) := ⟨_, Lib.hid rfl⟩
      obtain ⟨y, hy⟩ : ∃ y, Hid (Fl.costB (k + 1) = y) := ⟨_, Lib.hid rfl⟩
      rw [hx.out] at hhe
      rw [hy.out] at hnx
      clear hs hc1
      have HK := Lib.hid (show (0 < k ∧ k < Fl.infR ∧ k < 18446744073709551616 ∧ k + 1 < 18446744073709551616) = True from eq_true ⟨hk0, hki, hb1, hb2⟩)
      clear hk0 hki hb1 hb2
      go_wp2_with (first
        | (go_at_call 16; refine (inf_any _).mono ?_; rintro e w' ⟨rfl, rfl⟩)
        | (go_at_call 15; refine (next_any k (of_eq_true HK.out).1 (of_eq_true HK.out).2.1 _).mono ?_; rintro e w' ⟨rfl, rfl⟩)
        | (go_at_call 10; (first | (with_reducible (refine (ofr_any k (of_eq_true HK.out).2.2.1 _).mono ?_); rw [hx.out]) | (with_reducible (refine (ofr_any (k + 1) (of_eq_true HK.out).2.2.2 _).mono ?_); rw [hy.out])); rintro e w' ⟨rfl, rfl⟩))
      all_goals
        go_ret
        exact ⟨rfl, of_eq_true B.out⟩

set_option maxRecDepth 100000 in
theorem liftedCostSpeeds (os : Os) (started : os.Started) (H : Type) (enc : TypeId × Value → H) :
    ReturnsInHanded {} Try.checked os 5 .any (Rows.costSpeedsSpec.pre6 enc Try.prog Try.f5 Rows.costSpeedsRow.domain false) (Rows.costSpeedsSpec.post enc Try.prog Try.f5 false true false false) := by
  refine returnsInHanded_of_change (C := Try.checked) own started (by kernel_rfl) Try.func5
    (ChangeSpec.witness6 (enc := enc) (C := Try.checked) false ⟨#[], #[.int .i64 0], []⟩ 8 (by kernel_rfl) (by kernel_rfl) (by kernel_rfl) (by kernel_rfl)) ?_
  intro W base args ds gs before hval0 hW hcnd _
  have hval : ∀ (j : Nat) t v, Try.f5.params[j]? = some t → args[j]? = some v → Value.okWide Try.prog W .any base t v := hval0
  have hW' := hW
  obtain ⟨p, q, hA0, hV, rfl, hfz, hnd⟩ := hW
  have hA : DataW.TrodAll enc Try.prog W 0 (fun _ => true) true Try.f5.params.toList args.toList ds p := hA0
  rw [Try.params5] at hA hval
  obtain ⟨v0, vs0, d0, ds0, p0, q0, hargs, rfl, rfl, h0, r0⟩ := trodAll_cons hA
  obtain ⟨rfl, rfl, rfl⟩ := trodAll_nil r0
  obtain rfl : args = #[v0] := by cases args; simp_all
  obtain ⟨rfl, rfl⟩ := trodVars_none hV
  obtain ⟨a0, rfl, rfl, rfl, w0⟩ := open_int Try.underlying3 (hval 0 3 v0 rfl rfl) h0
  clear hA0 hval0
  refine (walkCostSpeeds a0 W w0).mono fun e W' ⟨he, bel⟩ => ?_
  subst he
  exact ⟨_, rfl, _, _, _, [], _, [], hW', trodAll_mk1 (shut_bool Try.underlying4 _), (trodAll_cons_mk (shut_int Try.underlying3 w0) trodAll_mk0), rfl, bel.frame _, fun h => by cases h⟩

theorem overCostSpeeds : Rows.costSpeedsRow.holds Try.pinned (OpenSpec.ofChange Rows.costSpeedsSpec) :=
  OpenClaim.holds_of_wide 5 Try.f5 rfl rfl rfl rfl rfl rfl rfl ⟨rfl, rfl, rfl, rfl, rfl⟩ rfl rfl rfl rfl rfl (by kernel_rfl) Try.func5 (by kernel_rfl)
    (of_decide_eq_true (by kernel_rfl)) (by unfold Func.isWrapper; first | (rw [if_pos (by decide +kernel)]; kernel_rfl) | (rw [if_neg (by decide +kernel)]; exact ⟨rfl, rfl⟩))
    (fun os started H enc _ => liftedCostSpeeds os started H enc)

/-- The statement. -/
theorem costSpeeds_holds : Rows.CostSpeedsSaid := overCostSpeeds

end Go.Proofs.Ytglgkgpflindjaa
