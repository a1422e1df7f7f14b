/- The statement RelayQuiet of layer 19, for every input: its content is proved in RlQ2, over the contract of the program's relay in RlInst; here it meets the form of the row. No condition. -/
import Derived.Test.YtnhnllkcnpbgoaaRlQ2
import Derived.Test.YtnhnllkcnpbgoaaRlInst
import Derived.Test.YtnhnllkcnpbgoaaRlOpen
namespace Go.Proofs.Ytnhnllkcnpbgoaa
open Go.ChangeShapes Go.WideShapes Go.ChangeAt Go.RowKit Go.Deep
set_option maxRecDepth 100000

theorem walkRelayQuiet (A : Option Addr) (c : Nat) (l : List Px) (i : Int) (f : Fr) (o : Fr) (w : World) (hA : PxAt w w.heap.size A l ∧ l.length ≤ c ∧ (A = none → c = 0) ∧ c ≤ maxLen) (hl : l.length * 48 ≤ 140737488351232) (_w1 : (Lit.int .i64 i).wf = true) :
    Calls Try.prog 4 #[.slice A l.length c, .int .i64 i, f.v, o.v] w fun e w' => e = .returned (.bool true) ∧ Below w.heap.size w w' :=
  walkQuiet relayIs A c l i f o w hA.1 hl
set_option maxRecDepth 100000 in
theorem liftedRelayQuiet (os : Os) (started : os.Started) (H : Type) (enc : TypeId × Value → H) :
    ReturnsInHanded {} Try.checked os 4 .any (Rows.relayQuietSpec.pre6 enc Try.prog Try.f4 Rows.relayQuietRow.domain false) (Rows.relayQuietSpec.post enc Try.prog Try.f4 false true false false) := by
  refine returnsInHanded_of_change_sized (C := Try.checked) own started (by kernel_rfl) Try.func4
    (ChangeSpec.witness6 (enc := enc) (C := Try.checked) false ⟨#[], #[.slice none 0 0, .int .i64 0, .agg #[.int .i64 0, .int .i64 0, .bool false, .int .i64 0, .int .i64 0, .int .i64 0, .string ⟨#[]⟩], .agg #[.int .i64 0, .int .i64 0, .bool false, .int .i64 0, .int .i64 0, .int .i64 0, .string ⟨#[]⟩]], []⟩ 8 (by kernel_rfl) (by kernel_rfl) (by kernel_rfl) (by kernel_rfl)) ?_
  intro W base args ds gs before hval0 hW hcnd hsz0 _
  have hsz : (DataW.weightsEach Try.prog (Try.f4.params.toList ++ Rows.relayQuietSpec.plain.varTypes Try.prog) (ds ++ gs)).all (· ≤ reachBytes) = true := hsz0
  clear hsz0
  have hval : ∀ (j : Nat) t v, Try.f4.params[j]? = some t → args[j]? = some v → Value.okWide Try.prog W .any base t v := hval0
  have hW' := hW
  obtain ⟨p, q, hA0, hV, rfl, hfz, hnd⟩ := hW
  have hA : DataW.TrodAll enc Try.prog W 0 (fun _ => true) true Try.f4.params.toList args.toList ds p := hA0
  rw [Try.params4] at hA hval hsz
  obtain ⟨v0, vs0, d0, ds0, p0, q0, hargs, rfl, rfl, h0, r0⟩ := trodAll_cons hA
  obtain ⟨v1, vs1, d1, ds1, p1, q1, rfl, rfl, rfl, h1, r1⟩ := trodAll_cons r0
  obtain ⟨v2, vs2, d2, ds2, p2, q2, rfl, rfl, rfl, h2, r2⟩ := trodAll_cons r1
  obtain ⟨v3, vs3, d3, ds3, p3, q3, rfl, rfl, rfl, h3, r3⟩ := trodAll_cons r2
  obtain ⟨rfl, rfl, rfl⟩ := trodAll_nil r3
  obtain rfl : args = #[v0, v1, v2, v3] := by cases args; simp_all
  obtain ⟨rfl, rfl⟩ := trodVars_none hV
  obtain ⟨a0', len0', cap0', rfl⟩ := okWide_slice Try.underlying22 (hval 0 22 v0 rfl rfl)
  have k0 := h0
  have lt0 : ∀ x ∈ p0, x.block < W.heap.size := by obtain ⟨m, hm⟩ := k0; exact DataW.trod_lt m _ _ _ hm
  have b0 : len0' * 48 ≤ 140737488351232 := weigh_slice Try.underlying22 (by kernel_rfl) h0 hsz (j := 0) rfl rfl
  obtain ⟨a0, cap0, l0, w0, e1, e2, e3⟩ : ∃ a cap, ∃ l : List Px, (PxAt W W.heap.size a l ∧ l.length ≤ cap ∧ (a = none → cap = 0) ∧ cap ≤ maxLen) ∧ a0' = a ∧ len0' = l.length ∧ cap0' = cap := by
    obtain ⟨fuel, hf⟩ := h0
    obtain ⟨a, cap, l, hcs, q⟩ := open_ports hf
    simp [Value.cells] at hcs
    obtain ⟨rfl, rfl, rfl⟩ := hcs
    exact ⟨_, _, l, q, rfl, rfl, rfl⟩
  subst e1 e2 e3
  obtain ⟨a1, rfl, rfl, rfl, w1⟩ := open_int Try.underlying3 (hval 1 3 v1 rfl rfl) h1
  have k2 := h2
  have lt2 : ∀ x ∈ p2, x.block < W.heap.size := by obtain ⟨m, hm⟩ := k2; exact DataW.trod_lt m _ _ _ hm
  obtain ⟨f2, rfl⟩ := open_fr (hval 2 24 v2 rfl rfl) h2
  have k3 := h3
  have lt3 : ∀ x ∈ p3, x.block < W.heap.size := by obtain ⟨m, hm⟩ := k3; exact DataW.trod_lt m _ _ _ hm
  obtain ⟨f3, rfl⟩ := open_fr (hval 3 24 v3 rfl rfl) h3
  clear hA0 hval0
  refine (walkRelayQuiet a0' cap0' l0 a1 f2 f3 W w0 b0 w1).mono fun e W' ⟨he, bel⟩ => ?_
  subst he
  exact ⟨_, rfl, _, _, _, [], _, [], hW', trodAll_mk1 (shut_bool Try.underlying4 _), (trodAll_cons_mk (Below.trod laidOut (by kernel_rfl) (of_decide_eq_true (by kernel_rfl)) k0 bel lt0) (trodAll_cons_mk (shut_int Try.underlying3 w1) (trodAll_cons_mk (Below.trod laidOut (by kernel_rfl) (of_decide_eq_true (by kernel_rfl)) k2 bel lt2) (trodAll_cons_mk (Below.trod laidOut (by kernel_rfl) (of_decide_eq_true (by kernel_rfl)) k3 bel lt3) trodAll_mk0)))), rfl, bel.frame _, fun h => by cases h⟩

theorem overRelayQuiet : Rows.relayQuietRow.holds Try.pinned (OpenSpec.ofChange Rows.relayQuietSpec) :=
  OpenClaim.holds_of_wide 4 Try.f4 rfl rfl rfl rfl rfl rfl rfl ⟨rfl, rfl, rfl, rfl, rfl⟩ rfl rfl rfl rfl rfl (by kernel_rfl) Try.func4 (by kernel_rfl)
    (of_decide_eq_true (by kernel_rfl)) (by unfold Func.isWrapper; first | (rw [if_pos (by decide +kernel)]; kernel_rfl) | (rw [if_neg (by decide +kernel)]; exact ⟨rfl, rfl⟩))
    (fun os started H enc _ => liftedRelayQuiet os started H enc)

/-- The statement. -/
theorem relayQuiet_holds : Rows.RelayQuietSaid := overRelayQuiet

#print axioms relayQuiet_holds
end Go.Proofs.Ytnhnllkcnpbgoaa
