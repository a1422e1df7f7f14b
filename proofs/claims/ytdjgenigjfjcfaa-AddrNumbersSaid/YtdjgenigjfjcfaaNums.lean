/- AddrNumbers: Vid, Type and Length answer what the document says, of all numbers. No condition. -/
import Derived.Test.YtdjgenigjfjcfaaAshow
import Derived.Test.YtdjgenigjfjcfaaFrame
import Derived.Test.YtdjgenigjfjcfaaRows
import Derived.Test.YtdjgenigjfjcfaaChecked
namespace Go.Proofs.Ytdjgenigjfjcfaa
open Go.ChangeShapes Go.WideShapes Go.ChangeAt Go.RowKit

set_option maxHeartbeats 2000000 in
theorem walkAddrNumbers (a : Int) (w : World) (_ : (Lit.int .i64 a).wf = true) :
    Calls Try.prog 4 #[.int .i64 a] w fun e w' => e = .returned (.bool true) ∧ Below w.heap.size w w' := by
  have K1 := Lib.hid (show typeB 33024 = true from rfl)
  have K2 := Lib.hid (show typeB 35061 = true from rfl)
  have K3 := Lib.hid (show typeB 35062 = true from rfl)
  have K4 := Lib.hid (show typeB 2048 = true from rfl)
  have hcase : a < 0 ∨ a = 0 ∨ (1 ≤ a ∧ a ≤ 1500) ∨ (1501 ≤ a ∧ a ≤ 1535) ∨ (1536 ≤ a ∧ a ≤ 4094) ∨ (4095 ≤ a ∧ a ≤ 65535) ∨ 65536 ≤ a := by omega
  rcases hcase with h | rfl | ⟨h, h'⟩ | ⟨h, h'⟩ | ⟨h, h'⟩ | ⟨h, h'⟩ | h
  · have hv := Lib.hid (show vidB a = false from decide_eq_false (by omega))
    have ht := Lib.hid (show typeB a = false from decide_eq_false (by omega))
    have hl := Lib.hid (show lengthB a = false from decide_eq_false (by omega))
    go_enter Try.func4, Try.ntmps4
    go_wp2_with fail
    refine (alive2_any _).mono ?_
    rintro e w1 ⟨rfl, b1⟩
    go_wp2_with (first
      | (go_at_call 15; refine (vid_any _ _).mono ?_; rw [hv.out]; rintro e w' ⟨rfl, rfl⟩)
      | (go_at_call 17; refine (length_any _ _).mono ?_; rw [hl.out]; rintro e w' ⟨rfl, rfl⟩)
      | (go_at_call 16; refine (type_any _ _).mono ?_; (first | rw [K1.out] | rw [K2.out] | rw [K3.out] | rw [K4.out] | rw [ht.out]); rintro e w' ⟨rfl, rfl⟩))
    go_ret
    exact ⟨rfl, b1⟩
  · have hv := Lib.hid (show vidB 0 = false from rfl)
    have ht := Lib.hid (show typeB 0 = false from rfl)
    have hl := Lib.hid (show lengthB 0 = true from rfl)
    go_enter Try.func4, Try.ntmps4
    go_wp2_with fail
    refine (alive2_any _).mono ?_
    rintro e w1 ⟨rfl, b1⟩
    go_wp2_with (first
      | (go_at_call 15; refine (vid_any _ _).mono ?_; rw [hv.out]; rintro e w' ⟨rfl, rfl⟩)
      | (go_at_call 17; refine (length_any _ _).mono ?_; rw [hl.out]; rintro e w' ⟨rfl, rfl⟩)
      | (go_at_call 16; refine (type_any _ _).mono ?_; (first | rw [K1.out] | rw [K2.out] | rw [K3.out] | rw [K4.out] | rw [ht.out]); rintro e w' ⟨rfl, rfl⟩))
    go_ret
    exact ⟨rfl, b1⟩
  · have hv := Lib.hid (show vidB a = true from decide_eq_true (by omega))
    have ht := Lib.hid (show typeB a = false from decide_eq_false (by omega))
    have hl := Lib.hid (show lengthB a = true from decide_eq_true (by omega))
    go_enter Try.func4, Try.ntmps4
    go_wp2_with fail
    refine (alive2_any _).mono ?_
    rintro e w1 ⟨rfl, b1⟩
    go_wp2_with (first
      | (go_at_call 15; refine (vid_any _ _).mono ?_; rw [hv.out]; rintro e w' ⟨rfl, rfl⟩)
      | (go_at_call 17; refine (length_any _ _).mono ?_; rw [hl.out]; rintro e w' ⟨rfl, rfl⟩)
      | (go_at_call 16; refine (type_any _ _).mono ?_; (first | rw [K1.out] | rw [K2.out] | rw [K3.out] | rw [K4.out] | rw [ht.out]); rintro e w' ⟨rfl, rfl⟩))
    go_ret
    exact ⟨rfl, b1⟩
  · have hv := Lib.hid (show vidB a = true from decide_eq_true (by omega))
    have ht := Lib.hid (show typeB a = false from decide_eq_false (by omega))
    have hl := Lib.hid (show lengthB a = false from decide_eq_false (by omega))
    have d1501 : decide (a < 1501) = false := by simp; omega
    go_enter Try.func4, Try.ntmps4
    go_wp2_with fail
    refine (alive2_any _).mono ?_
    rintro e w1 ⟨rfl, b1⟩
    go_wp2_with (first
      | (go_at_call 15; refine (vid_any _ _).mono ?_; rw [hv.out]; rintro e w' ⟨rfl, rfl⟩)
      | (go_at_call 17; refine (length_any _ _).mono ?_; rw [hl.out]; rintro e w' ⟨rfl, rfl⟩)
      | (go_at_call 16; refine (type_any _ _).mono ?_; (first | rw [K1.out] | rw [K2.out] | rw [K3.out] | rw [K4.out] | rw [ht.out]); rintro e w' ⟨rfl, rfl⟩))
    go_ret
    exact ⟨rfl, b1⟩
  · have hv := Lib.hid (show vidB a = true from decide_eq_true (by omega))
    have ht := Lib.hid (show typeB a = true from decide_eq_true (by omega))
    have hl := Lib.hid (show lengthB a = false from decide_eq_false (by omega))
    have d1501 : decide (a < 1501) = false := by simp; omega
    go_enter Try.func4, Try.ntmps4
    go_wp2_with fail
    refine (alive2_any _).mono ?_
    rintro e w1 ⟨rfl, b1⟩
    go_wp2_with (first
      | (go_at_call 15; refine (vid_any _ _).mono ?_; rw [hv.out]; rintro e w' ⟨rfl, rfl⟩)
      | (go_at_call 17; refine (length_any _ _).mono ?_; rw [hl.out]; rintro e w' ⟨rfl, rfl⟩)
      | (go_at_call 16; refine (type_any _ _).mono ?_; (first | rw [K1.out] | rw [K2.out] | rw [K3.out] | rw [K4.out] | rw [ht.out]); rintro e w' ⟨rfl, rfl⟩))
    go_ret
    exact ⟨rfl, b1⟩
  · have hv := Lib.hid (show vidB a = false from decide_eq_false (by omega))
    have ht := Lib.hid (show typeB a = true from decide_eq_true (by omega))
    have hl := Lib.hid (show lengthB a = false from decide_eq_false (by omega))
    have d1501 : decide (a < 1501) = false := by simp; omega
    have d4095 : decide (a < 4095) = false := by simp; omega
    go_enter Try.func4, Try.ntmps4
    go_wp2_with fail
    refine (alive2_any _).mono ?_
    rintro e w1 ⟨rfl, b1⟩
    go_wp2_with (first
      | (go_at_call 15; refine (vid_any _ _).mono ?_; rw [hv.out]; rintro e w' ⟨rfl, rfl⟩)
      | (go_at_call 17; refine (length_any _ _).mono ?_; rw [hl.out]; rintro e w' ⟨rfl, rfl⟩)
      | (go_at_call 16; refine (type_any _ _).mono ?_; (first | rw [K1.out] | rw [K2.out] | rw [K3.out] | rw [K4.out] | rw [ht.out]); rintro e w' ⟨rfl, rfl⟩))
    go_ret
    exact ⟨rfl, b1⟩
  · have hv := Lib.hid (show vidB a = false from decide_eq_false (by omega))
    have ht := Lib.hid (show typeB a = false from decide_eq_false (by omega))
    have hl := Lib.hid (show lengthB a = false from decide_eq_false (by omega))
    have d1501 : decide (a < 1501) = false := by simp; omega
    have d4095 : decide (a < 4095) = false := by simp; omega
    have d65536 : decide (a < 65536) = false := by simp; omega
    go_enter Try.func4, Try.ntmps4
    go_wp2_with fail
    refine (alive2_any _).mono ?_
    rintro e w1 ⟨rfl, b1⟩
    go_wp2_with (first
      | (go_at_call 15; refine (vid_any _ _).mono ?_; rw [hv.out]; rintro e w' ⟨rfl, rfl⟩)
      | (go_at_call 17; refine (length_any _ _).mono ?_; rw [hl.out]; rintro e w' ⟨rfl, rfl⟩)
      | (go_at_call 16; refine (type_any _ _).mono ?_; (first | rw [K1.out] | rw [K2.out] | rw [K3.out] | rw [K4.out] | rw [ht.out]); rintro e w' ⟨rfl, rfl⟩))
    go_ret
    exact ⟨rfl, b1⟩

set_option maxRecDepth 100000 in
theorem liftedAddrNumbers (os : Os) (started : os.Started) (H : Type) (enc : TypeId × Value → H) :
    ReturnsInHanded {} Try.checked os 4 .any (Rows.addrNumbersSpec.pre6 enc Try.prog Try.f4 Rows.addrNumbersRow.domain false) (Rows.addrNumbersSpec.post enc Try.prog Try.f4 false true false false) := by
  refine returnsInHanded_of_change (C := Try.checked) own started (by kernel_rfl) Try.func4
    (ChangeSpec.witness6 (enc := enc) (C := Try.checked) false ⟨#[], #[.int .i64 0], []⟩ 8 (by kernel_rfl) (by kernel_rfl) (by kernel_rfl) (by kernel_rfl)) ?_
  intro W base args ds gs before hval0 hW hcnd _
  have hval : ∀ (j : Nat) t v, Try.f4.params[j]? = some t → args[j]? = some v → Value.okWide Try.prog W .any base t v := hval0
  have hW' := hW
  obtain ⟨p, q, hA0, hV, rfl, hfz, hnd⟩ := hW
  have hA : DataW.TrodAll enc Try.prog W 0 (fun _ => true) true Try.f4.params.toList args.toList ds p := hA0
  rw [Try.params4] at hA hval
  obtain ⟨v0, vs0, d0, ds0, p0, q0, hargs, rfl, rfl, h0, r0⟩ := trodAll_cons hA
  obtain ⟨rfl, rfl, rfl⟩ := trodAll_nil r0
  obtain rfl : args = #[v0] := by cases args; simp_all
  obtain ⟨rfl, rfl⟩ := trodVars_none hV
  obtain ⟨a0, rfl, rfl, rfl, w0⟩ := open_int Try.underlying3 (hval 0 3 v0 rfl rfl) h0
  clear hA0 hval0
  refine (walkAddrNumbers a0 W w0).mono fun e W' ⟨he, bel⟩ => ?_
  subst he
  exact ⟨_, rfl, _, _, _, [], _, [], hW', trodAll_mk1 (shut_bool Try.underlying4 _), (trodAll_cons_mk (shut_int Try.underlying3 w0) trodAll_mk0), rfl, bel.frame _, fun h => by cases h⟩

theorem overAddrNumbers : Rows.addrNumbersRow.holds Try.pinned (OpenSpec.ofChange Rows.addrNumbersSpec) :=
  OpenClaim.holds_of_wide 4 Try.f4 rfl rfl rfl rfl rfl rfl rfl ⟨rfl, rfl, rfl, rfl, rfl⟩ rfl rfl rfl rfl rfl (by kernel_rfl) Try.func4 (by kernel_rfl)
    (of_decide_eq_true (by kernel_rfl)) (by unfold Func.isWrapper; first | (rw [if_pos (by decide +kernel)]; kernel_rfl) | (rw [if_neg (by decide +kernel)]; exact ⟨rfl, rfl⟩))
    (fun os started H enc _ => liftedAddrNumbers os started H enc)

/-- The statement. -/
theorem addrNumbers_holds : Rows.AddrNumbersSaid := overAddrNumbers

end Go.Proofs.Ytdjgenigjfjcfaa
