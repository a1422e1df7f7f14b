/- The statement SpreadUp of layer 17, for every input: its content is proved in SUp; here it meets the form of the row. No condition but the form's own reach. -/
import Derived.Test.YtaieopejabpegaaSUp
import Derived.Test.YtaieopejabpegaaSnWants
import Derived.Test.YtaieopejabpegaaSnOpen
namespace Go.Proofs.Ytaieopejabpegaa
open Go.ChangeShapes Go.WideShapes Go.ChangeAt Go.RowKit Go.Deep
set_option maxRecDepth 100000

theorem walkSpreadUp (A : Option Addr) (c : Nat) (l : List Vx) (a : At) (own at_ born : Int) (w : World) (hA : VxAt w w.heap.size A l ∧ (∀ x ∈ l, x.xs.length ≤ x.c ∧ x.bs.length ≤ x.c' ∧ (x.A = none → x.c = 0) ∧ (x.A' = none → x.c' = 0) ∧ x.c ≤ maxLen ∧ x.c' ≤ maxLen) ∧ l.length ≤ c ∧ (A = none → c = 0) ∧ c ≤ maxLen) (hb : l.length * 56 ≤ 140737488351232) (_ho : (Lit.int .i64 own).wf = true) (_ha : (Lit.int .i64 at_).wf = true) (_hx : (Lit.int .i64 born).wf = true) :
    Calls Try.prog 7 #[.slice A l.length c, .agg #[.int .i64 a.t, .int .i64 a.v], .int .i64 own, .int .i64 at_, .int .i64 born] w fun e w' => e = .returned (.bool true) ∧ Below w.heap.size w w' :=
  walkUp wantsIs A c l a own at_ born w hA.1 hb ⟨hA.2.2.1, hA.2.2.2.1⟩
set_option maxRecDepth 100000 in
theorem liftedSpreadUp (os : Os) (started : os.Started) (H : Type) (enc : TypeId × Value → H) :
    ReturnsInHanded {} Try.checked os 7 .any (Rows.spreadUpSpec.pre6 enc Try.prog Try.f7 Rows.spreadUpRow.domain false) (Rows.spreadUpSpec.post enc Try.prog Try.f7 false true false false) := by
  refine returnsInHanded_of_change_sized (C := Try.checked) own started (by kernel_rfl) Try.func7
    (ChangeSpec.witness6 (enc := enc) (C := Try.checked) false ⟨#[], #[.slice none 0 0, .agg #[.int .i64 0, .int .i64 0], .int .i64 0, .int .i64 0, .int .i64 0], []⟩ 8 (by kernel_rfl) (by kernel_rfl) (by kernel_rfl) (by kernel_rfl)) ?_
  intro W base args ds gs before hval0 hW hcnd hsz0 _
  have hsz : (DataW.weightsEach Try.prog (Try.f7.params.toList ++ Rows.spreadUpSpec.plain.varTypes Try.prog) (ds ++ gs)).all (· ≤ reachBytes) = true := hsz0
  clear hsz0
  have hval : ∀ (j : Nat) t v, Try.f7.params[j]? = some t → args[j]? = some v → Value.okWide Try.prog W .any base t v := hval0
  have hW' := hW
  obtain ⟨p, q, hA0, hV, rfl, hfz, hnd⟩ := hW
  have hA : DataW.TrodAll enc Try.prog W 0 (fun _ => true) true Try.f7.params.toList args.toList ds p := hA0
  rw [Try.params7] at hA hval hsz
  obtain ⟨v0, vs0, d0, ds0, p0, q0, hargs, rfl, rfl, h0, r0⟩ := trodAll_cons hA
  obtain ⟨v1, vs1, d1, ds1, p1, q1, rfl, rfl, rfl, h1, r1⟩ := trodAll_cons r0
  obtain ⟨v2, vs2, d2, ds2, p2, q2, rfl, rfl, rfl, h2, r2⟩ := trodAll_cons r1
  obtain ⟨v3, vs3, d3, ds3, p3, q3, rfl, rfl, rfl, h3, r3⟩ := trodAll_cons r2
  obtain ⟨v4, vs4, d4, ds4, p4, q4, rfl, rfl, rfl, h4, r4⟩ := trodAll_cons r3
  obtain ⟨rfl, rfl, rfl⟩ := trodAll_nil r4
  obtain rfl : args = #[v0, v1, v2, v3, v4] := by cases args; simp_all
  obtain ⟨rfl, rfl⟩ := trodVars_none hV
  obtain ⟨a0', len0', cap0', rfl⟩ := okWide_slice Try.underlying22 (hval 0 22 v0 rfl rfl)
  have k0 := h0
  have lt0 : ∀ x ∈ p0, x.block < W.heap.size := by obtain ⟨m, hm⟩ := k0; exact DataW.trod_lt m _ _ _ hm
  have b0 : len0' * 56 ≤ 140737488351232 := weigh_slice Try.underlying22 (by kernel_rfl) h0 hsz (j := 0) rfl rfl
  obtain ⟨a0, cap0, l0, w0, e1, e2, e3⟩ : ∃ a cap, ∃ l : List Vx, (VxAt W W.heap.size a l ∧ (∀ x ∈ l, x.xs.length ≤ x.c ∧ x.bs.length ≤ x.c' ∧ (x.A = none → x.c = 0) ∧ (x.A' = none → x.c' = 0) ∧ x.c ≤ maxLen ∧ x.c' ≤ maxLen) ∧ l.length ≤ cap ∧ (a = none → cap = 0) ∧ cap ≤ maxLen) ∧ a0' = a ∧ len0' = l.length ∧ cap0' = cap := by
    obtain ⟨fuel, hf⟩ := h0
    obtain ⟨a, cap, l, hcs, q⟩ := open_views hf
    simp [Value.cells] at hcs
    obtain ⟨rfl, rfl, rfl⟩ := hcs
    exact ⟨_, _, l, q, rfl, rfl, rfl⟩
  subst e1 e2 e3
  have k1 := h1
  have lt1 : ∀ x ∈ p1, x.block < W.heap.size := by obtain ⟨m, hm⟩ := k1; exact DataW.trod_lt m _ _ _ hm
  obtain ⟨t1, u1, rfl⟩ := open_attr (hval 1 24 v1 rfl rfl) h1
  obtain ⟨a2, rfl, rfl, rfl, w2⟩ := open_int Try.underlying3 (hval 2 3 v2 rfl rfl) h2
  obtain ⟨a3, rfl, rfl, rfl, w3⟩ := open_int Try.underlying3 (hval 3 3 v3 rfl rfl) h3
  obtain ⟨a4, rfl, rfl, rfl, w4⟩ := open_int Try.underlying3 (hval 4 3 v4 rfl rfl) h4
  clear hA0 hval0
  refine (walkSpreadUp a0' cap0' l0 ⟨t1, u1⟩ a2 a3 a4 W w0 b0 w2 w3 w4).mono fun e W' ⟨he, bel⟩ => ?_
  subst he
  exact ⟨_, rfl, _, _, _, [], _, [], hW', trodAll_mk1 (shut_bool Try.underlying4 _), (trodAll_cons_mk (Below.trod laidOut (by kernel_rfl) (of_decide_eq_true (by kernel_rfl)) k0 bel lt0) (trodAll_cons_mk (Below.trod laidOut (by kernel_rfl) (of_decide_eq_true (by kernel_rfl)) k1 bel lt1) (trodAll_cons_mk (shut_int Try.underlying3 w2) (trodAll_cons_mk (shut_int Try.underlying3 w3) (trodAll_cons_mk (shut_int Try.underlying3 w4) trodAll_mk0))))), rfl, bel.frame _, fun h => by cases h⟩

theorem overSpreadUp : Rows.spreadUpRow.holds Try.pinned (OpenSpec.ofChange Rows.spreadUpSpec) :=
  OpenClaim.holds_of_wide 7 Try.f7 rfl rfl rfl rfl rfl rfl rfl ⟨rfl, rfl, rfl, rfl, rfl⟩ rfl rfl rfl rfl rfl (by kernel_rfl) Try.func7 (by kernel_rfl)
    (of_decide_eq_true (by kernel_rfl)) (by unfold Func.isWrapper; first | (rw [if_pos (by decide +kernel)]; kernel_rfl) | (rw [if_neg (by decide +kernel)]; exact ⟨rfl, rfl⟩))
    (fun os started H enc _ => liftedSpreadUp os started H enc)

/-- The statement. -/
theorem spreadUp_holds : Rows.SpreadUpSaid := overSpreadUp

#print axioms spreadUp_holds
end Go.Proofs.Ytaieopejabpegaa
