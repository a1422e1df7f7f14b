/- The statement FdbDoes of layer 18, for every input: its content is proved in FDoes, over the program's contracts in FbInst; here it meets the form of the row. No condition. -/
import Derived.Test.YtocahiifeckogaaFDoes
import Derived.Test.YtocahiifeckogaaFbInst
import Derived.Test.YtocahiifeckogaaFrame
namespace Go.Proofs.Ytocahiifeckogaa
open Go.ChangeShapes Go.WideShapes Go.ChangeAt Go.RowKit Go.Deep
set_option maxRecDepth 100000

theorem walkFdbDoes (A : Option Addr) (c : Nat) (l : List Kc) (w : World) (hA : KcAt w w.heap.size A l ∧ l.length ≤ maxLen) :
    Calls Try.prog 3 #[.slice A l.length c] w fun e w' => e = .returned (.bool true) ∧ Below w.heap.size w w' :=
  walkDoes fdbIs A c l w hA.1 hA.2
set_option maxRecDepth 100000 in
theorem liftedFdbDoes (os : Os) (started : os.Started) (H : Type) (enc : TypeId × Value → H) :
    ReturnsInHanded {} Try.checked os 3 .any (Rows.fdbDoesSpec.pre6 enc Try.prog Try.f3 Rows.fdbDoesRow.domain false) (Rows.fdbDoesSpec.post enc Try.prog Try.f3 false true false false) := by
  refine returnsInHanded_of_change (C := Try.checked) own started (by kernel_rfl) Try.func3
    (ChangeSpec.witness6 (enc := enc) (C := Try.checked) false ⟨#[], #[.slice none 0 0], []⟩ 8 (by kernel_rfl) (by kernel_rfl) (by kernel_rfl) (by kernel_rfl)) ?_
  intro W base args ds gs before hval0 hW hcnd _
  have hval : ∀ (j : Nat) t v, Try.f3.params[j]? = some t → args[j]? = some v → Value.okWide Try.prog W .any base t v := hval0
  have hW' := hW
  obtain ⟨p, q, hA0, hV, rfl, hfz, hnd⟩ := hW
  have hA : DataW.TrodAll enc Try.prog W 0 (fun _ => true) true Try.f3.params.toList args.toList ds p := hA0
  rw [Try.params3] at hA hval
  obtain ⟨v0, vs0, d0, ds0, p0, q0, hargs, rfl, rfl, h0, r0⟩ := trodAll_cons hA
  obtain ⟨rfl, rfl, rfl⟩ := trodAll_nil r0
  obtain rfl : args = #[v0] := by cases args; simp_all
  obtain ⟨rfl, rfl⟩ := trodVars_none hV
  obtain ⟨a0', len0', cap0', rfl⟩ := okWide_slice Try.underlying22 (hval 0 22 v0 rfl rfl)
  have k0 := h0
  have lt0 : ∀ x ∈ p0, x.block < W.heap.size := by obtain ⟨m, hm⟩ := k0; exact DataW.trod_lt m _ _ _ hm
  obtain ⟨a0, cap0, l0, w0, e1, e2, e3⟩ : ∃ a cap, ∃ l : List Kc, (KcAt W W.heap.size a l ∧ l.length ≤ maxLen) ∧ a0' = a ∧ len0' = l.length ∧ cap0' = cap := by
    obtain ⟨fuel, hf⟩ := h0
    obtain ⟨a, cap, l, hcs, q⟩ := open_calls hf
    simp [Value.cells] at hcs
    obtain ⟨rfl, rfl, rfl⟩ := hcs
    exact ⟨_, _, l, q, rfl, rfl, rfl⟩
  subst e1 e2 e3
  clear hA0 hval0
  refine (walkFdbDoes a0' cap0' l0 W w0).mono fun e W' ⟨he, bel⟩ => ?_
  subst he
  exact ⟨_, rfl, _, _, _, [], _, [], hW', trodAll_mk1 (shut_bool Try.underlying4 _), (trodAll_cons_mk (Below.trod laidOut (by kernel_rfl) (of_decide_eq_true (by kernel_rfl)) k0 bel lt0) trodAll_mk0), rfl, bel.frame _, fun h => by cases h⟩

theorem overFdbDoes : Rows.fdbDoesRow.holds Try.pinned (OpenSpec.ofChange Rows.fdbDoesSpec) :=
  OpenClaim.holds_of_wide 3 Try.f3 rfl rfl rfl rfl rfl rfl rfl ⟨rfl, rfl, rfl, rfl, rfl⟩ rfl rfl rfl rfl rfl (by kernel_rfl) Try.func3 (by kernel_rfl)
    (of_decide_eq_true (by kernel_rfl)) (by unfold Func.isWrapper; first | (rw [if_pos (by decide +kernel)]; kernel_rfl) | (rw [if_neg (by decide +kernel)]; exact ⟨rfl, rfl⟩))
    (fun os started H enc _ => liftedFdbDoes os started H enc)

/-- The statement. -/
theorem fdbDoes_holds : Rows.FdbDoesSaid := overFdbDoes

#print axioms fdbDoes_holds
end Go.Proofs.Ytocahiifeckogaa
