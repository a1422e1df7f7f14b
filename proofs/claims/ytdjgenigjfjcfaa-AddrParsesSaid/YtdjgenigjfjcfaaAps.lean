/- AddrParses: what is parsed of any text is shown as that text; others are refused. No condition. -/
import Derived.Test.YtdjgenigjfjcfaaAparse
import Derived.Test.YtdjgenigjfjcfaaArefs
import Derived.Test.YtdjgenigjfjcfaaAback
import Derived.Test.YtdjgenigjfjcfaaFrame
import Derived.Test.YtdjgenigjfjcfaaRows
import Derived.Test.YtdjgenigjfjcfaaChecked
namespace Go.Proofs.Ytdjgenigjfjcfaa
open Go.ChangeShapes Go.WideShapes Go.ChangeAt Go.RowKit
open Go.ChangeMaps (open_string shut_string)

set_option maxHeartbeats 1000000 in
theorem walkAddrParses (s : ByteArray) (w : World) (hs : s.size ≤ maxLen) :
    Calls Try.prog 6 #[.string s] w fun e w' => e = .returned (.bool true) ∧ Below w.heap.size w w' := by
  have hs' := hs
  unfold maxLen at hs'
  by_cases h1 : s.size ≤ 100
  · have d1 : decide ((100 : Int) < s.size) = false := by simp; omega
    by_cases h17 : s.size = 17
    · have H17 := Lib.hid h17
      cases hp : pv s.data.toList 17 with
      | none =>
        have HP := Lib.hid (show parsed s = (0, 4) by unfold parsed; rw [hp])
        clear hp h17
        go_enter Try.func6, Try.ntmps6
        go_wp2_with fail
        refine (alive2_any _).mono ?_
        rintro e w1 ⟨rfl, b1⟩
        go_wp2_with fail
        refine (parse_17 _ _ H17.out).mono ?_
        rw [HP.out]
        rintro e w3 ⟨rfl, b3⟩
        have hb := b1.trans (b3.mono b1.size)
        clear b1 b3
        go_wp2_with fail
        go_ret
        exact ⟨rfl, hb⟩
      | some v =>
        have HP := Lib.hid (show parsed s = ((v : Int), 0) by unfold parsed; rw [hp])
        obtain ⟨hv, hv2⟩ := show_pv s.data.toList v (by rw [Array.length_toList]; exact h17) hp
        have HR := Lib.hid (showr_good v · hv2)
        rw [← show_ref v, hv, show strL s.data.toList = s by simp [strL]] at HR
        clear hp h17 hv
        go_enter Try.func6, Try.ntmps6
        go_wp2_with fail
        refine (alive2_any _).mono ?_
        rintro e w1 ⟨rfl, b1⟩
        go_wp2_with fail
        refine (parse_17 _ _ H17.out).mono ?_
        rw [HP.out]
        rintro e w3 ⟨rfl, b3⟩
        have hb := b1.trans (b3.mono b1.size)
        clear b1 b3
        go_wp2_with (go_at_call 20; refine (HR.out _).mono ?_; rintro e w' ⟨rfl, rfl⟩)
        go_ret
        exact ⟨rfl, hb⟩
    · have H17 := Lib.hid h17
      have HS := Lib.hid hs
      clear h17 hs
      go_enter Try.func6, Try.ntmps6
      go_wp2_with fail
      refine (alive2_any _).mono ?_
      rintro e w1 ⟨rfl, b1⟩
      go_wp2_with fail
      refine (parse_size _ _ H17.out HS.out).mono ?_
      rintro e w3 ⟨rfl, rfl⟩
      go_wp2_with fail
      go_ret
      exact ⟨rfl, b1⟩
  · have d1 : decide ((100 : Int) < s.size) = true := by simp; omega
    clear h1 hs
    go_enter Try.func6, Try.ntmps6
    go_wp2_with fail
    refine (alive2_any _).mono ?_
    rintro e w1 ⟨rfl, b1⟩
    go_wp2_with fail
    go_ret
    exact ⟨rfl, b1⟩

set_option maxRecDepth 100000 in
theorem liftedAddrParses (os : Os) (started : os.Started) (H : Type) (enc : TypeId × Value → H) :
    ReturnsInHanded {} Try.checked os 6 .any (Rows.addrParsesSpec.pre6 enc Try.prog Try.f6 Rows.addrParsesRow.domain false) (Rows.addrParsesSpec.post enc Try.prog Try.f6 false true false false) := by
  refine returnsInHanded_of_change (C := Try.checked) own started (by kernel_rfl) Try.func6
    (ChangeSpec.witness6 (enc := enc) (C := Try.checked) false ⟨#[], #[.string ⟨#[]⟩], []⟩ 8 (by kernel_rfl) (by kernel_rfl) (by kernel_rfl) (by kernel_rfl)) ?_
  intro W base args ds gs before hval0 hW hcnd _
  have hval : ∀ (j : Nat) t v, Try.f6.params[j]? = some t → args[j]? = some v → Value.okWide Try.prog W .any base t v := hval0
  have hW' := hW
  obtain ⟨p, q, hA0, hV, rfl, hfz, hnd⟩ := hW
  have hA : DataW.TrodAll enc Try.prog W 0 (fun _ => true) true Try.f6.params.toList args.toList ds p := hA0
  rw [Try.params6] at hA hval
  obtain ⟨v0, vs0, d0, ds0, p0, q0, hargs, rfl, rfl, h0, r0⟩ := trodAll_cons hA
  obtain ⟨rfl, rfl, rfl⟩ := trodAll_nil r0
  obtain rfl : args = #[v0] := by cases args; simp_all
  obtain ⟨rfl, rfl⟩ := trodVars_none hV
  obtain ⟨s0, rfl, rfl, rfl, w0⟩ := open_string Try.underlying9 (hval 0 9 v0 rfl rfl) h0
  clear hA0 hval0
  refine (walkAddrParses s0 W w0).mono fun e W' ⟨he, bel⟩ => ?_
  subst he
  exact ⟨_, rfl, _, _, _, [], _, [], hW', trodAll_mk1 (shut_bool Try.underlying4 _), (trodAll_cons_mk (shut_string Try.underlying9 w0) trodAll_mk0), rfl, bel.frame _, fun h => by cases h⟩

theorem overAddrParses : Rows.addrParsesRow.holds Try.pinned (OpenSpec.ofChange Rows.addrParsesSpec) :=
  OpenClaim.holds_of_wide 6 Try.f6 rfl rfl rfl rfl rfl rfl rfl ⟨rfl, rfl, rfl, rfl, rfl⟩ rfl rfl rfl rfl rfl (by kernel_rfl) Try.func6 (by kernel_rfl)
    (of_decide_eq_true (by kernel_rfl)) (by unfold Func.isWrapper; first | (rw [if_pos (by decide +kernel)]; kernel_rfl) | (rw [if_neg (by decide +kernel)]; exact ⟨rfl, rfl⟩))
    (fun os started H enc _ => liftedAddrParses os started H enc)

/-- The statement. -/
theorem addrParses_holds : Rows.AddrParsesSaid := overAddrParses

end Go.Proofs.Ytdjgenigjfjcfaa
