/- The statement SpreadAll of layer 17, for every input: its content is proved in SAll; here it meets the form of the row. No condition but the form's own reach. -/
import Derived.Test.YtaieopejabpegaaSAll
import Derived.Test.YtaieopejabpegaaSnWants
import Derived.Test.YtaieopejabpegaaSnOpen
namespace Go.Proofs.Ytaieopejabpegaa
open Go.ChangeShapes Go.WideShapes Go.ChangeAt Go.RowKit Go.Deep
set_option maxRecDepth 100000

theorem walkSpreadAll (A : Option Addr) (c : Nat) (l : List Vx) (A2 : Option Addr) (c2 : Nat) (more : List At) (a : At) (w : World) (hA : VxAt w w.heap.size A l ∧ (∀ x ∈ l, x.xs.length ≤ x.c ∧ x.bs.length ≤ x.c' ∧ (x.A = none → x.c = 0) ∧ (x.A' = none → x.c' = 0) ∧ x.c ≤ maxLen ∧ x.c' ≤ maxLen) ∧ l.length ≤ c ∧ (A = none → c = 0) ∧ c ≤ maxLen) (hb : l.length * 56 ≤ 140737488351232) (hM : AtsAt w w.heap.size A2 more ∧ more.length ≤ c2 ∧ (A2 = none → c2 = 0) ∧ c2 ≤ maxLen) (_hb2 : more.length * 16 ≤ 140737488351232) :
    Calls Try.prog 4 #[.slice A l.length c, .slice A2 more.length c2, .agg #[.int .i64 a.t, .int .i64 a.v]] w fun e w' => e = .returned (.bool true) ∧ Below w.heap.size w w' :=
  walkAll wantsIs A A2 c c2 l more a w hA.1 hb hM.1 ⟨hM.2.1, hM.2.2.1⟩ (fun k hk => by
    rw [List.getD_eq_getElem?_getD, List.getElem?_eq_getElem hk]
    exact (hA.2.1 _ (List.getElem_mem hk)).2.2.1)
set_option maxRecDepth 100000 in
theorem liftedSpreadAll (os : Os) (started : os.Started) (H : Type) (enc : TypeId × Value → H) :
    ReturnsInHanded {} Try.checked os 4 .any (Rows.spreadAllSpec.pre6 enc Try.prog Try.f4 Rows.spreadAllRow.domain false) (Rows.spreadAllSpec.post enc Try.prog Try.f4 false true false false) := by
  refine returnsInHanded_of_change_sized (C := Try.checked) own started (by kernel_rfl) Try.func4
    (ChangeSpec.witness6 (enc := enc) (C := Try.checked) false ⟨#[], #[.slice none 0 0, .slice none 0 0, .agg #[.int .i64 0, .int .i64 0]], []⟩ 8 (by kernel_rfl) (by kernel_rfl) (by kernel_rfl) (by kernel_rfl)) ?_
  intro W base args ds gs before hval0 hW hcnd hsz0 _
  have hsz : (DataW.weightsEach Try.prog (Try.f4.params.toList ++ Rows.spreadAllSpec.plain.varTypes Try.prog) (ds ++ gs)).all (· ≤ reachBytes) = true := hsz0
  clear hsz0
  have hval : ∀ (j : Nat) t v, Try.f4.params[j]? = some t → args[j]? = some v → Value.okWide Try.prog W .any base t v := hval0
  have hW' := hW
  obtain ⟨p, q, hA0, hV, rfl, hfz, hnd⟩ := hW
  have hA : DataW.TrodAll enc Try.prog W 0 (fun _ => true) true Try.f4.params.toList args.toList ds p := hA0
  rw [Try.params4] at hA hval hsz
  obtain ⟨v0, vs0, d0, ds0, p0, q0, hargs, rfl, rfl, h0, r0⟩ := trodAll_cons hA
  obtain ⟨v1, vs1, d1, ds1, p1, q1, rfl, rfl, rfl, h1, r1⟩ := trodAll_cons r0
  obtain ⟨v2, vs2, d2, ds2, p2, q2, rfl, rfl, rfl, h2, r2⟩ := trodAll_cons r1
  obtain ⟨rfl, rfl, rfl⟩ := trodAll_nil r2
  obtain rfl : args = #[v0, v1, v2] := by cases args; simp_all
  obtain ⟨rfl, rfl⟩ := trodVars_none hV
  obtain ⟨a0', len0', cap0', rfl⟩ := okWide_slice Try.underlying22 (hval 0 22 v0 rfl rfl)
  have k0 := h0
  have lt0 : ∀ x ∈ p0, x.block < W.heap.size := by obtain ⟨m, hm⟩ := k0; exact DataW.trod_lt m _ _ _ hm
  have b0 : len0' * 56 ≤ 140737488351232 := weigh_slice Try.underlying22 (by kernel_rfl) h0 hsz (j := 0) rfl rfl
  obtain ⟨a0, cap0, l0, w0, e1, e2, e3⟩ : ∃ a cap, ∃ l : List Vx, (VxAt W W.heap.size a l ∧ (∀ x ∈ l, x.xs.length ≤ x.c ∧ x.bs.length ≤ x.c' ∧ (x.A = none → x.c = 0) ∧ (x.A' = none → x.c' = 0) ∧ x.c ≤ maxLen ∧ x.c' ≤ maxLen) ∧ l.length ≤ cap ∧ (a = none → cap = 0) ∧ cap ≤ maxLen) ∧ a0' = a ∧ len0' = l.length ∧ cap0' = cap := by
    obtain ⟨fuel, hf⟩ := h0
    obtain ⟨a, cap, l, hcs, q⟩ := open_views hf
    simp [Value.cells] at hcs
    obtain ⟨rfl, rfl, rfl⟩ := hcs
    exact ⟨_, _, l, q, rfl, rfl, rfl⟩
  subst e1 e2 e3
  obtain ⟨a1', len1', cap1', rfl⟩ := okWide_slice Try.underlying33 (hval 1 33 v1 rfl rfl)
  have k1 := h1
  have lt1 : ∀ x ∈ p1, x.block < W.heap.size := by obtain ⟨m, hm⟩ := k1; exact DataW.trod_lt m _ _ _ hm
  have b1 : len1' * 16 ≤ 140737488351232 := weigh_slice Try.underlying33 (by kernel_rfl) h1 hsz (j := 1) rfl rfl
  obtain ⟨a1, cap1, l1, w1, e1, e2, e3⟩ : ∃ a cap, ∃ l : List At, (AtsAt W W.heap.size a l ∧ l.length ≤ cap ∧ (a = none → cap = 0) ∧ cap ≤ maxLen) ∧ a1' = a ∧ len1' = l.length ∧ cap1' = cap := by
    obtain ⟨fuel, hf⟩ := h1
    obtain ⟨a, cap, l, hcs, q⟩ := open_ats Try.underlying33 hf
    simp [Value.cells] at hcs
    obtain ⟨rfl, rfl, rfl⟩ := hcs
    exact ⟨_, _, l, q, rfl, rfl, rfl⟩
  subst e1 e2 e3
  have k2 := h2
  have lt2 : ∀ x ∈ p2, x.block < W.heap.size := by obtain ⟨m, hm⟩ := k2; exact DataW.trod_lt m _ _ _ hm
  obtain ⟨t2, u2, rfl⟩ := open_attr (hval 2 24 v2 rfl rfl) h2
  clear hA0 hval0
  refine (walkSpreadAll a0' cap0' l0 a1' cap1' l1 ⟨t2, u2⟩ W w0 b0 w1 b1).mono fun e W' ⟨he, bel⟩ => ?_
  subst he
  exact ⟨_, rfl, _, _, _, [], _, [], hW', trodAll_mk1 (shut_bool Try.underlying4 _), (trodAll_cons_mk (Below.trod laidOut (by kernel_rfl) (of_decide_eq_true (by kernel_rfl)) k0 bel lt0) (trodAll_cons_mk (Below.trod laidOut (by kernel_rfl) (of_decide_eq_true (by kernel_rfl)) k1 bel lt1) (trodAll_cons_mk (Below.trod laidOut (by kernel_rfl) (of_decide_eq_true (by kernel_rfl)) k2 bel lt2) trodAll_mk0))), rfl, bel.frame _, fun h => by cases h⟩

theorem overSpreadAll : Rows.spreadAllRow.holds Try.pinned (OpenSpec.ofChange Rows.spreadAllSpec) :=
  OpenClaim.holds_of_wide 4 Try.f4 rfl rfl rfl rfl rfl rfl rfl ⟨rfl, rfl, rfl, rfl, rfl⟩ rfl rfl rfl rfl rfl (by kernel_rfl) Try.func4 (by kernel_rfl)
    (of_decide_eq_true (by kernel_rfl)) (by unfold Func.isWrapper; first | (rw [if_pos (by decide +kernel)]; kernel_rfl) | (rw [if_neg (by decide +kernel)]; exact ⟨rfl, rfl⟩))
    (fun os started H enc _ => liftedSpreadAll os started H enc)

/-- The statement. -/
theorem spreadAll_holds : Rows.SpreadAllSaid := overSpreadAll

#print axioms spreadAll_holds
end Go.Proofs.Ytaieopejabpegaa
