/- AddrKinds: Good, Many and Kept answer what the document says, of all numbers. No condition. -/
import Derived.Test.YtdjgenigjfjcfaaAshow
import Derived.Test.YtdjgenigjfjcfaaFrame
import Derived.Test.YtdjgenigjfjcfaaRows
import Derived.Test.YtdjgenigjfjcfaaChecked
namespace Go.Proofs.Ytdjgenigjfjcfaa
open Go.ChangeShapes Go.WideShapes Go.ChangeAt Go.RowKit

set_option maxHeartbeats 1000000 in
theorem walkAddrKinds (a : Int) (w : World) (_ : (Lit.int .i64 a).wf = true) :
    Calls Try.prog 3 #[.int .i64 a] w fun e w' => e = .returned (.bool true) ∧ Below w.heap.size w w' := by
  have K1 := Lib.hid (show keptB 1652522221568 = true from rfl)
  have K2 := Lib.hid (show keptB 1652522221601 = true from rfl)
  have K3 := Lib.hid (show keptB 1652522221600 = true from rfl)
  have K4 := Lib.hid (show keptB 281474976710655 = false from rfl)
  have K5 := Lib.hid (show manyB 281474976710655 = true from rfl)
  obtain ⟨g, hg⟩ : ∃ g, Hid (goodB a = g) := ⟨_, Lib.hid rfl⟩
  obtain ⟨m, hm⟩ : ∃ m, Hid (manyB a = m) := ⟨_, Lib.hid rfl⟩
  obtain ⟨k, hk⟩ : ∃ k, Hid (keptB a = k) := ⟨_, Lib.hid rfl⟩
  cases g <;> cases m <;> cases k
  all_goals
    go_enter Try.func3, Try.ntmps3
    go_wp2_with fail
    refine (alive2_any _).mono ?_
    rintro e w1 ⟨rfl, b1⟩
    go_wp2_with (first
      | (go_at_call 9; refine (good_any _ _).mono ?_; rw [hg.out]; rintro e w' ⟨rfl, rfl⟩)
      | (go_at_call 10; refine (goodr_any _ _).mono ?_; rw [hg.out]; rintro e w' ⟨rfl, rfl⟩)
      | (go_at_call 11; refine (many_any _ _).mono ?_; rw [hm.out]; rintro e w' ⟨rfl, rfl⟩)
      | (go_at_call 12; refine (manyr_any _ _).mono ?_; (first | rw [K5.out] | rw [hm.out]); rintro e w' ⟨rfl, rfl⟩)
      | (go_at_call 13; refine (kept_any _ _).mono ?_; rw [hk.out]; rintro e w' ⟨rfl, rfl⟩)
      | (go_at_call 14; refine (keptr_any _ _).mono ?_; (first | rw [K1.out] | rw [K2.out] | rw [K3.out] | rw [K4.out] | rw [hk.out]); rintro e w' ⟨rfl, rfl⟩))
    go_ret
    exact ⟨rfl, b1⟩

set_option maxRecDepth 100000 in
theorem liftedAddrKinds (os : Os) (started : os.Started) (H : Type) (enc : TypeId × Value → H) :
    ReturnsInHanded {} Try.checked os 3 .any (Rows.addrKindsSpec.pre6 enc Try.prog Try.f3 Rows.addrKindsRow.domain false) (Rows.addrKindsSpec.post enc Try.prog Try.f3 false true false false) := by
  refine returnsInHanded_of_change (C := Try.checked) own started (by kernel_rfl) Try.func3
    (ChangeSpec.witness6 (enc := enc) (C := Try.checked) false ⟨#[], #[.int .i64 0], []⟩ 8 (by kernel_rfl) (by kernel_rfl) (by kernel_rfl) (by kernel_rfl)) ?_
  intro W base args ds gs before hval0 hW hcnd _
  have hval : ∀ (j : Nat) t v, Try.f3.params[j]? = some t → args[j]? = some v → Value.okWide Try.prog W .any base t v := hval0
  have hW' := hW
  obtain ⟨p, q, hA0, hV, rfl, hfz, hnd⟩ := hW
  have hA : DataW.TrodAll enc Try.prog W 0 (fun _ => true) true Try.f3.params.toList args.toList ds p := hA0
  rw [Try.params3] at hA hval
  obtain ⟨v0, vs0, d0, ds0, p0, q0, hargs, rfl, rfl, h0, r0⟩ := trodAll_cons hA
  obtain ⟨rfl, rfl, rfl⟩ := trodAll_nil r0
  obtain rfl : args = #[v0] := by cases args; simp_all
  obtain ⟨rfl, rfl⟩ := trodVars_none hV
  obtain ⟨a0, rfl, rfl, rfl, w0⟩ := open_int Try.underlying3 (hval 0 3 v0 rfl rfl) h0
  clear hA0 hval0
  refine (walkAddrKinds a0 W w0).mono fun e W' ⟨he, bel⟩ => ?_
  subst he
  exact ⟨_, rfl, _, _, _, [], _, [], hW', trodAll_mk1 (shut_bool Try.underlying4 _), (trodAll_cons_mk (shut_int Try.underlying3 w0) trodAll_mk0), rfl, bel.frame _, fun h => by cases h⟩

theorem overAddrKinds : Rows.addrKindsRow.holds Try.pinned (OpenSpec.ofChange Rows.addrKindsSpec) :=
  OpenClaim.holds_of_wide 3 Try.f3 rfl rfl rfl rfl rfl rfl rfl ⟨rfl, rfl, rfl, rfl, rfl⟩ rfl rfl rfl rfl rfl (by kernel_rfl) Try.func3 (by kernel_rfl)
    (of_decide_eq_true (by kernel_rfl)) (by unfold Func.isWrapper; first | (rw [if_pos (by decide +kernel)]; kernel_rfl) | (rw [if_neg (by decide +kernel)]; exact ⟨rfl, rfl⟩))
    (fun os started H enc _ => liftedAddrKinds os started H enc)

/-- The statement. -/
theorem addrKinds_holds : Rows.AddrKindsSaid := overAddrKinds

end Go.Proofs.Ytdjgenigjfjcfaa
