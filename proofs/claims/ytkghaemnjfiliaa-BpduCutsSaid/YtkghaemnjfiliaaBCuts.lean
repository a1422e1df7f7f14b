/- Bytes that are cut short, or go on, are none. No condition. -/
import Derived.Test.YtkghaemnjfiliaaFrame
import Derived.Test.YtkghaemnjfiliaaBpAlive
import Derived.Test.YtkghaemnjfiliaaBpRef
import Derived.Test.YtkghaemnjfiliaaBpOpen
namespace Go.Proofs.Ytkghaemnjfiliaa
open Go.RowKit Go.ChangeShapes Go.WideShapes
open Go.ChangeMaps (open_string shut_string)

theorem cut_no (T : ByteArray) (k : Nat) (hT : T.size = 36) (hk : k < 36) : (T.extract 0 k).size ≠ 36 := by
  rw [ByteArray.size_extract]; omega
set_option maxHeartbeats 8000000 in
theorem walkBpduCuts (b : Bp) (cut : Int) (more : ByteArray) (w : World) (hi : b.int) (_hc : (Lit.int .i64 cut).wf = true) (_hm : more.size ≤ maxLen) :
    Calls Try.prog 6 #[b.v, .int .i64 cut, .string more] w fun e w' => e = .returned (.bool true) ∧ Below w.heap.size w w' := by
  have z0 := Blk.new w 25 b.cells
  have bel := bel_alloc w (.cells b.cells 25)
  have HR := fun w => rbgood_any b hi w
  clear _hc _hm hi
  cases hg : b.good
  · rw [hg] at HR
    clear hg
    obtain ⟨root, cost, bridge, port, age, role, change⟩ := b
    simp only [Bp.v, Bp.cells] at HR z0 bel ⊢
    go_enter Try.func6, Try.ntmps6
    go_wp2_with (go_at_call 8; refine (balive_any _).mono ?_; rintro e w' ⟨rfl, rfl⟩)
    refine (HR _).mono ?_
    rintro e u1 ⟨rfl, bb⟩
    replace z0 := z0.below bb z0.lt
    replace bel := bel.trans (bb.mono bel.size)
    clear bb
    go_wp2_with fail
    go_ret
    exact ⟨rfl, bel⟩
  have HF := fun w => rbytes_any b hg w
  have hT36 := braw_size b
  obtain ⟨T, hT⟩ : ∃ T : ByteArray, (⟨b.raw.toArray⟩ : ByteArray) = T := ⟨_, rfl⟩
  rw [hg] at HR
  rw [hT] at HF hT36
  clear hg hT
  obtain ⟨root, cost, bridge, port, age, role, change⟩ := b
  simp only [Bp.v, Bp.cells] at HR HF z0 bel ⊢
  by_cases m1 : 100 < more.size
  · skip
    go_enter Try.func6, Try.ntmps6
    go_wp2_with (go_at_call 8; refine (balive_any _).mono ?_; rintro e w' ⟨rfl, rfl⟩)
    refine (HR _).mono ?_
    rintro e u1 ⟨rfl, bb⟩
    replace z0 := z0.below bb z0.lt
    replace bel := bel.trans (bb.mono bel.size)
    clear bb
    go_wp2_with fail
    go_ret
    exact ⟨rfl, bel⟩
  by_cases m0 : more.size = 0
  · obtain rfl : more = ⟨#[]⟩ := ByteArray.ext (Array.eq_empty_of_size_eq_zero m0)
    go_enter Try.func6, Try.ntmps6
    go_wp2_with (go_at_call 8; refine (balive_any _).mono ?_; rintro e w' ⟨rfl, rfl⟩)
    refine (HR _).mono ?_
    rintro e u1 ⟨rfl, bb⟩
    replace z0 := z0.below bb z0.lt
    replace bel := bel.trans (bb.mono bel.size)
    clear bb
    go_wp2_with fail
    go_ret
    exact ⟨rfl, bel⟩
  have m3 : (more.toList == []) = false := by
    have : more.toList ≠ [] := fun e => m0 (by rw [ByteArray.toList_eq] at e; have := congrArg List.length e; simpa using this)
    simpa using this
  obtain ⟨k, hk, hk36⟩ : ∃ k : Nat, IntKind.u64.wrap cut % 36 = (k : Int) ∧ k < 36 := ⟨(IntKind.u64.wrap cut % 36).toNat, by omega, by omega⟩
  have hw0 : 0 ≤ IntKind.u64.wrap cut := by rw [IntKind.wrap_u64]; omega
  have hw1 : wrap64 ((IntKind.u64.wrap cut).tmod 36) = (k : Int) := by rw [Int.tmod_eq_emod_of_nonneg hw0, hk]; exact IntWalk.wrap64_in _ (by omega)
  have hk0 : (k : Int) ≤ 36 := by omega
  have HN1 := fun w => bread_no (T.extract 0 k) (by rw [ByteArray.size_extract]; omega) (cut_no T k hT36 hk36) w
  have HN2 := fun w => bread_no (T ++ more) (by rw [ByteArray.size_append]; omega) (by rw [ByteArray.size_append]; omega) w
  simp only [Bp.v, Bp.cells, Bp.zero] at HN1 HN2
  clear m0 hk hw0
  have s1 : ¬ 9223372036854775807 < T.size + more.size := by omega
  have s2 : ¬ 9223372036854775807 < 36 + more.size := by omega
  go_enter Try.func6, Try.ntmps6
  go_wp2_with (go_at_call 8; refine (balive_any _).mono ?_; rintro e w' ⟨rfl, rfl⟩)
  refine (HR _).mono ?_
  rintro e u1 ⟨rfl, bb⟩
  replace z0 := z0.below bb z0.lt
  replace bel := bel.trans (bb.mono bel.size)
  clear bb
  have q0_0 : u1.cell? ⟨w.heap.size, 0, none⟩ = some (.int .i64 root) := z0.cell 0
  have q0_1 : u1.cell? ⟨w.heap.size, 1, none⟩ = some (.int .i64 cost) := z0.cell 1
  have q0_2 : u1.cell? ⟨w.heap.size, 2, none⟩ = some (.int .i64 bridge) := z0.cell 2
  have q0_3 : u1.cell? ⟨w.heap.size, 3, none⟩ = some (.int .i64 port) := z0.cell 3
  have q0_4 : u1.cell? ⟨w.heap.size, 4, none⟩ = some (.int .i64 age) := z0.cell 4
  have q0_5 : u1.cell? ⟨w.heap.size, 5, none⟩ = some (.int .i64 role) := z0.cell 5
  have q0_6 : u1.cell? ⟨w.heap.size, 6, none⟩ = some (.bool change) := z0.cell 6
  go_wp2_with fail
  refine (HF _).mono ?_
  rintro e u2 ⟨rfl, bb⟩
  clear q0_0 q0_1 q0_2 q0_3 q0_4 q0_5 q0_6
  replace z0 := z0.below bb z0.lt
  replace bel := bel.trans (bb.mono bel.size)
  clear bb
  clear z0
  go_wp2_with fail
  refine (HN1 _).mono ?_
  rintro e u3 ⟨rfl, bb⟩
  replace bel := bel.trans (bb.mono bel.size)
  clear bb
  go_wp2_with fail
  refine (HN2 _).mono ?_
  rintro e u4 ⟨rfl, bb⟩
  replace bel := (bel.alloc bel.size _).trans (bb.mono (by have := bel.size; simp; omega))
  clear bb
  go_wp2_with fail
  go_ret
  exact ⟨rfl, bel.alloc bel.size _⟩
set_option maxRecDepth 100000 in
theorem liftedBpduCuts (os : Os) (started : os.Started) (H : Type) (enc : TypeId × Value → H) :
    ReturnsInHanded {} Try.checked os 6 .any (Rows.bpduCutsSpec.pre6 enc Try.prog Try.f6 Rows.bpduCutsRow.domain false) (Rows.bpduCutsSpec.post enc Try.prog Try.f6 false true false false) := by
  refine returnsInHanded_of_change (C := Try.checked) own started (by kernel_rfl) Try.func6
    (ChangeSpec.witness6 (enc := enc) (C := Try.checked) false ⟨#[], #[.agg #[.int .i64 0, .int .i64 0, .int .i64 0, .int .i64 0, .int .i64 0, .int .i64 0, .bool false], .int .i64 0, .string ⟨#[]⟩], []⟩ 8 (by kernel_rfl) (by kernel_rfl) (by kernel_rfl) (by kernel_rfl)) ?_
  intro W base args ds gs before hval0 hW hcnd _
  have hval : ∀ (j : Nat) t v, Try.f6.params[j]? = some t → args[j]? = some v → Value.okWide Try.prog W .any base t v := hval0
  have hW' := hW
  obtain ⟨p, q, hA0, hV, rfl, hfz, hnd⟩ := hW
  have hA : DataW.TrodAll enc Try.prog W 0 (fun _ => true) true Try.f6.params.toList args.toList ds p := hA0
  rw [Try.params6] at hA hval
  obtain ⟨v0, vs0, d0, ds0, p0, q0, hargs, rfl, rfl, h0, r0⟩ := trodAll_cons hA
  obtain ⟨v1, vs1, d1, ds1, p1, q1, rfl, rfl, rfl, h1, r1⟩ := trodAll_cons r0
  obtain ⟨v2, vs2, d2, ds2, p2, q2, rfl, rfl, rfl, h2, r2⟩ := trodAll_cons r1
  obtain ⟨rfl, rfl, rfl⟩ := trodAll_nil r2
  obtain rfl : args = #[v0, v1, v2] := by cases args; simp_all
  obtain ⟨rfl, rfl⟩ := trodVars_none hV
  have k0 := h0
  have lt0 : ∀ x ∈ p0, x.block < W.heap.size := by obtain ⟨m, hm⟩ := k0; exact DataW.trod_lt m _ _ _ hm
  obtain ⟨b0, rfl, w0⟩ := open_bp (hval 0 25 v0 rfl rfl) h0
  obtain ⟨a1, rfl, rfl, rfl, w1⟩ := open_int Try.underlying3 (hval 1 3 v1 rfl rfl) h1
  obtain ⟨s2, rfl, rfl, rfl, w2⟩ := open_string Try.underlying9 (hval 2 9 v2 rfl rfl) h2
  clear hA0 hval0
  refine (walkBpduCuts b0 a1 s2 W w0 w1 w2).mono fun e W' ⟨he, bel⟩ => ?_
  subst he
  exact ⟨_, rfl, _, _, _, [], _, [], hW', trodAll_mk1 (shut_bool Try.underlying4 _), (trodAll_cons_mk (Below.trod laidOut (by kernel_rfl) (of_decide_eq_true (by kernel_rfl)) k0 bel lt0) (trodAll_cons_mk (shut_int Try.underlying3 w1) (trodAll_cons_mk (shut_string Try.underlying9 w2) trodAll_mk0))), rfl, bel.frame _, fun h => by cases h⟩

theorem overBpduCuts : Rows.bpduCutsRow.holds Try.pinned (OpenSpec.ofChange Rows.bpduCutsSpec) :=
  OpenClaim.holds_of_wide 6 Try.f6 rfl rfl rfl rfl rfl rfl rfl ⟨rfl, rfl, rfl, rfl, rfl⟩ rfl rfl rfl rfl rfl (by kernel_rfl) Try.func6 (by kernel_rfl)
    (of_decide_eq_true (by kernel_rfl)) (by unfold Func.isWrapper; first | (rw [if_pos (by decide +kernel)]; kernel_rfl) | (rw [if_neg (by decide +kernel)]; exact ⟨rfl, rfl⟩))
    (fun os started H enc _ => liftedBpduCuts os started H enc)

/-- The statement. -/
theorem bpduCuts_holds : Rows.BpduCutsSaid := overBpduCuts

#print axioms bpduCuts_holds
end Go.Proofs.Ytkghaemnjfiliaa
