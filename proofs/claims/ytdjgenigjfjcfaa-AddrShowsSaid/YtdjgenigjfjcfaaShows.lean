/- AddrShows: Show answers what the document says, of all numbers; what is shown is parsed. No condition. -/
import Derived.Test.YtdjgenigjfjcfaaAparse
import Derived.Test.YtdjgenigjfjcfaaArefs
import Derived.Test.YtdjgenigjfjcfaaAback
import Derived.Test.YtdjgenigjfjcfaaFrame
import Derived.Test.YtdjgenigjfjcfaaRows
import Derived.Test.YtdjgenigjfjcfaaChecked
namespace Go.Proofs.Ytdjgenigjfjcfaa
open Go.ChangeShapes Go.WideShapes Go.ChangeAt Go.RowKit

theorem parsed_show (a : Nat) (ha : a ≤ 281474976710655) : parsed (strL (showL a 6)) = ((a : Int), 0) := by
  unfold parsed
  rw [show (strL (showL a 6)).data.toList = showL a 6 by simp [strL], pv_show a ha]
theorem show_size (a : Nat) : (strL (showL a 6)).size = 17 := by rw [strL_size, show_list]; rfl
set_option maxHeartbeats 1000000 in
theorem walkAddrShows (x : Int) (w : World) (_ : (Lit.int .i64 x).wf = true) :
    Calls Try.prog 5 #[.int .i64 x] w fun e w' => e = .returned (.bool true) ∧ Below w.heap.size w w' := by
  by_cases hx : 0 ≤ x ∧ x ≤ 281474976710655
  · have HG := Lib.hid (goodB_t hx.1 hx.2)
    obtain ⟨a, rfl⟩ := Int.eq_ofNat_of_zero_le hx.1
    have ha : a ≤ 281474976710655 := by omega
    have hP := parsed_show a ha
    have hZ := show_size a
    have HS := Lib.hid (show_good a · ha)
    have HR := Lib.hid (showr_good a · ha)
    rw [show (⟨(showL a 6).toArray⟩ : ByteArray) = strL (showL a 6) from rfl] at HS
    rw [← show_ref a] at HR
    generalize strL (showL a 6) = T at *
    have HP := Lib.hid hP
    have HZ := Lib.hid hZ
    clear hP hZ hx
    go_enter Try.func5, Try.ntmps5
    go_wp2_with fail
    refine (alive2_any _).mono ?_
    rintro e w1 ⟨rfl, b1⟩
    go_wp2_with fail
    refine (HS.out _).mono ?_
    rintro e w2 ⟨rfl, b2⟩
    go_wp2_with fail
    refine (parse_17 _ _ HZ.out).mono ?_
    rw [HP.out]
    rintro e w3 ⟨rfl, b3⟩
    have hb := (b1.trans (b2.mono b1.size)).trans (b3.mono (Nat.le_trans b1.size b2.size))
    clear b1 b2 b3
    go_wp2_with (first
      | (go_at_call 10; refine (goodr_any _ _).mono ?_; rw [HG.out]; rintro e w' ⟨rfl, rfl⟩)
      | (go_at_call 20; refine (HR.out _).mono ?_; rintro e w' ⟨rfl, rfl⟩))
    go_ret
    exact ⟨rfl, hb⟩
  · have HG := Lib.hid (goodB_f hx)
    have HX := Lib.hid hx
    clear hx
    go_enter Try.func5, Try.ntmps5
    go_wp2_with fail
    refine (alive2_any _).mono ?_
    rintro e w1 ⟨rfl, b1⟩
    go_wp2_with fail
    refine (show_none _ _ HX.out).mono ?_
    rintro e w2 ⟨rfl, b2⟩
    go_wp2_with fail
    refine (parse_size _ _ (by decide) (by decide)).mono ?_
    rintro e w3 ⟨rfl, rfl⟩
    have hb := (b1.trans (b2.mono b1.size))
    clear b1 b2
    go_wp2_with (go_at_call 10; refine (goodr_any _ _).mono ?_; rw [HG.out]; rintro e w' ⟨rfl, rfl⟩)
    go_ret
    exact ⟨rfl, hb⟩

set_option maxRecDepth 100000 in
theorem liftedAddrShows (os : Os) (started : os.Started) (H : Type) (enc : TypeId × Value → H) :
    ReturnsInHanded {} Try.checked os 5 .any (Rows.addrShowsSpec.pre6 enc Try.prog Try.f5 Rows.addrShowsRow.domain false) (Rows.addrShowsSpec.post enc Try.prog Try.f5 false true false false) := by
  refine returnsInHanded_of_change (C := Try.checked) own started (by kernel_rfl) Try.func5
    (ChangeSpec.witness6 (enc := enc) (C := Try.checked) false ⟨#[], #[.int .i64 0], []⟩ 8 (by kernel_rfl) (by kernel_rfl) (by kernel_rfl) (by kernel_rfl)) ?_
  intro W base args ds gs before hval0 hW hcnd _
  have hval : ∀ (j : Nat) t v, Try.f5.params[j]? = some t → args[j]? = some v → Value.okWide Try.prog W .any base t v := hval0
  have hW' := hW
  obtain ⟨p, q, hA0, hV, rfl, hfz, hnd⟩ := hW
  have hA : DataW.TrodAll enc Try.prog W 0 (fun _ => true) true Try.f5.params.toList args.toList ds p := hA0
  rw [Try.params5] at hA hval
  obtain ⟨v0, vs0, d0, ds0, p0, q0, hargs, rfl, rfl, h0, r0⟩ := trodAll_cons hA
  obtain ⟨rfl, rfl, rfl⟩ := trodAll_nil r0
  obtain rfl : args = #[v0] := by cases args; simp_all
  obtain ⟨rfl, rfl⟩ := trodVars_none hV
  obtain ⟨a0, rfl, rfl, rfl, w0⟩ := open_int Try.underlying3 (hval 0 3 v0 rfl rfl) h0
  clear hA0 hval0
  refine (walkAddrShows a0 W w0).mono fun e W' ⟨he, bel⟩ => ?_
  subst he
  exact ⟨_, rfl, _, _, _, [], _, [], hW', trodAll_mk1 (shut_bool Try.underlying4 _), (trodAll_cons_mk (shut_int Try.underlying3 w0) trodAll_mk0), rfl, bel.frame _, fun h => by cases h⟩

theorem overAddrShows : Rows.addrShowsRow.holds Try.pinned (OpenSpec.ofChange Rows.addrShowsSpec) :=
  OpenClaim.holds_of_wide 5 Try.f5 rfl rfl rfl rfl rfl rfl rfl ⟨rfl, rfl, rfl, rfl, rfl⟩ rfl rfl rfl rfl rfl (by kernel_rfl) Try.func5 (by kernel_rfl)
    (of_decide_eq_true (by kernel_rfl)) (by unfold Func.isWrapper; first | (rw [if_pos (by decide +kernel)]; kernel_rfl) | (rw [if_neg (by decide +kernel)]; exact ⟨rfl, rfl⟩))
    (fun os started H enc _ => liftedAddrShows os started H enc)

/-- The statement. -/
theorem addrShows_holds : Rows.AddrShowsSaid := overAddrShows

end Go.Proofs.Ytdjgenigjfjcfaa
