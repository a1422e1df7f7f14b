/- Good and Bytes answer what the document says, of all messages; what has bytes is read from them; they are 36. No condition. -/
import Derived.Test.YtkghaemnjfiliaaFrame
import Derived.Test.YtkghaemnjfiliaaBpAlive
import Derived.Test.YtkghaemnjfiliaaBpRef
import Derived.Test.YtkghaemnjfiliaaBpOpen
namespace Go.Proofs.Ytkghaemnjfiliaa
open Go.RowKit Go.ChangeShapes Go.WideShapes

set_option maxHeartbeats 8000000 in
theorem walkBpduBytes (b : Bp) (w : World) (hi : b.int) :
    Calls Try.prog 3 #[b.v] w fun e w' => e = .returned (.bool true) ∧ Below w.heap.size w w' := by
  have z0 := Blk.new w 25 b.cells
  have bel := bel_alloc w (.cells b.cells 25)
  have HR := fun w => rbgood_any b hi w
  have HG := fun w => bgood_any b hi w
  cases hg : b.good
  · have HB := fun w => bbytes_bad b hi hg w
    rw [hg] at HR HG
    clear hi hg
    obtain ⟨root, cost, bridge, port, age, role, change⟩ := b
    simp only [Bp.v, Bp.cells] at HB HR HG z0 bel ⊢
    go_enter Try.func3, Try.ntmps3
    go_wp2_with (go_at_call 8; refine (balive_any _).mono ?_; rintro e w' ⟨rfl, rfl⟩)
    refine (HR _).mono ?_
    rintro e u1 ⟨rfl, bb⟩
    replace z0 := z0.below bb z0.lt
    replace bel := bel.trans (bb.mono bel.size)
    clear bb
    have q0_0 : u1.cell? ⟨w.heap.size, 0, none⟩ = some (.int .i64 root) := z0.cell 0
    have q0_1 : u1.cell? ⟨w.heap.size, 1, none⟩ = some (.int .i64 cost) := z0.cell 1
    have q0_2 : u1.cell? ⟨w.heap.size, 2, none⟩ = some (.int .i64 bridge) := z0.cell 2
    have q0_3 : u1.cell? ⟨w.heap.size, 3, none⟩ = some (.int .i64 port) := z0.cell 3
    have q0_4 : u1.cell? ⟨w.heap.size, 4, none⟩ = some (.int .i64 age) := z0.cell 4
    have q0_5 : u1.cell? ⟨w.heap.size, 5, none⟩ = some (.int .i64 role) := z0.cell 5
    have q0_6 : u1.cell? ⟨w.heap.size, 6, none⟩ = some (.bool change) := z0.cell 6
    go_wp2_with fail
    refine (HB _).mono ?_
    rintro e u2 ⟨rfl, bb⟩
    clear q0_0 q0_1 q0_2 q0_3 q0_4 q0_5 q0_6
    replace z0 := z0.below bb z0.lt
    replace bel := bel.trans (bb.mono bel.size)
    clear bb
    have q0_0 : u2.cell? ⟨w.heap.size, 0, none⟩ = some (.int .i64 root) := z0.cell 0
    have q0_1 : u2.cell? ⟨w.heap.size, 1, none⟩ = some (.int .i64 cost) := z0.cell 1
    have q0_2 : u2.cell? ⟨w.heap.size, 2, none⟩ = some (.int .i64 bridge) := z0.cell 2
    have q0_3 : u2.cell? ⟨w.heap.size, 3, none⟩ = some (.int .i64 port) := z0.cell 3
    have q0_4 : u2.cell? ⟨w.heap.size, 4, none⟩ = some (.int .i64 age) := z0.cell 4
    have q0_5 : u2.cell? ⟨w.heap.size, 5, none⟩ = some (.int .i64 role) := z0.cell 5
    have q0_6 : u2.cell? ⟨w.heap.size, 6, none⟩ = some (.bool change) := z0.cell 6
    go_wp2_with fail
    refine (HG _).mono ?_
    rintro e u3 ⟨rfl, bb⟩
    clear q0_0 q0_1 q0_2 q0_3 q0_4 q0_5 q0_6
    replace z0 := z0.below bb z0.lt
    replace bel := bel.trans (bb.mono bel.size)
    clear bb
    go_wp2_with fail
    go_ret
    exact ⟨rfl, bel⟩
  · have HB := fun w => bbytes_good b hi hg w
    have HF := fun w => rbytes_any b hg w
    have HX := fun w => bread_good b hg w
    have hT36 := braw_size b
    obtain ⟨T, hT⟩ : ∃ T : ByteArray, (⟨b.raw.toArray⟩ : ByteArray) = T := ⟨_, rfl⟩
    rw [hg] at HR HG
    rw [hT] at HB HF HX hT36
    clear hi hg hT
    obtain ⟨root, cost, bridge, port, age, role, change⟩ := b
    simp only [Bp.v, Bp.cells] at HB HR HG HF HX z0 bel ⊢
    go_enter Try.func3, Try.ntmps3
    go_wp2_with (go_at_call 8; refine (balive_any _).mono ?_; rintro e w' ⟨rfl, rfl⟩)
    refine (HR _).mono ?_
    rintro e u1 ⟨rfl, bb⟩
    replace z0 := z0.below bb z0.lt
    replace bel := bel.trans (bb.mono bel.size)
    clear bb
    have q0_0 : u1.cell? ⟨w.heap.size, 0, none⟩ = some (.int .i64 root) := z0.cell 0
    have q0_1 : u1.cell? ⟨w.heap.size, 1, none⟩ = some (.int .i64 cost) := z0.cell 1
    have q0_2 : u1.cell? ⟨w.heap.size, 2, none⟩ = some (.int .i64 bridge) := z0.cell 2
    have q0_3 : u1.cell? ⟨w.heap.size, 3, none⟩ = some (.int .i64 port) := z0.cell 3
    have q0_4 : u1.cell? ⟨w.heap.size, 4, none⟩ = some (.int .i64 age) := z0.cell 4
    have q0_5 : u1.cell? ⟨w.heap.size, 5, none⟩ = some (.int .i64 role) := z0.cell 5
    have q0_6 : u1.cell? ⟨w.heap.size, 6, none⟩ = some (.bool change) := z0.cell 6
    go_wp2_with fail
    refine (HB _).mono ?_
    rintro e u2 ⟨rfl, bb⟩
    clear q0_0 q0_1 q0_2 q0_3 q0_4 q0_5 q0_6
    replace z0 := z0.below bb z0.lt
    replace bel := bel.trans (bb.mono bel.size)
    clear bb
    have q0_0 : u2.cell? ⟨w.heap.size, 0, none⟩ = some (.int .i64 root) := z0.cell 0
    have q0_1 : u2.cell? ⟨w.heap.size, 1, none⟩ = some (.int .i64 cost) := z0.cell 1
    have q0_2 : u2.cell? ⟨w.heap.size, 2, none⟩ = some (.int .i64 bridge) := z0.cell 2
    have q0_3 : u2.cell? ⟨w.heap.size, 3, none⟩ = some (.int .i64 port) := z0.cell 3
    have q0_4 : u2.cell? ⟨w.heap.size, 4, none⟩ = some (.int .i64 age) := z0.cell 4
    have q0_5 : u2.cell? ⟨w.heap.size, 5, none⟩ = some (.int .i64 role) := z0.cell 5
    have q0_6 : u2.cell? ⟨w.heap.size, 6, none⟩ = some (.bool change) := z0.cell 6
    go_wp2_with fail
    refine (HG _).mono ?_
    rintro e u3 ⟨rfl, bb⟩
    clear q0_0 q0_1 q0_2 q0_3 q0_4 q0_5 q0_6
    replace z0 := z0.below bb z0.lt
    replace bel := bel.trans (bb.mono bel.size)
    clear bb
    have q0_0 : u3.cell? ⟨w.heap.size, 0, none⟩ = some (.int .i64 root) := z0.cell 0
    have q0_1 : u3.cell? ⟨w.heap.size, 1, none⟩ = some (.int .i64 cost) := z0.cell 1
    have q0_2 : u3.cell? ⟨w.heap.size, 2, none⟩ = some (.int .i64 bridge) := z0.cell 2
    have q0_3 : u3.cell? ⟨w.heap.size, 3, none⟩ = some (.int .i64 port) := z0.cell 3
    have q0_4 : u3.cell? ⟨w.heap.size, 4, none⟩ = some (.int .i64 age) := z0.cell 4
    have q0_5 : u3.cell? ⟨w.heap.size, 5, none⟩ = some (.int .i64 role) := z0.cell 5
    have q0_6 : u3.cell? ⟨w.heap.size, 6, none⟩ = some (.bool change) := z0.cell 6
    go_wp2_with fail
    refine (HX _).mono ?_
    rintro e u4 ⟨rfl, bb⟩
    clear q0_0 q0_1 q0_2 q0_3 q0_4 q0_5 q0_6
    replace z0 := z0.below bb z0.lt
    replace bel := bel.trans (bb.mono bel.size)
    clear bb
    have y0 := z0.alloc (.cells #[.int .i64 root, .int .i64 cost, .int .i64 bridge, .int .i64 port, .int .i64 age, .int .i64 role, .bool change] 25)
    have q0_0 : (u4.alloc (.cells #[.int .i64 root, .int .i64 cost, .int .i64 bridge, .int .i64 port, .int .i64 age, .int .i64 role, .bool change] 25)).cell? ⟨w.heap.size, 0, none⟩ = some (.int .i64 root) := y0.cell 0
    have q0_1 : (u4.alloc (.cells #[.int .i64 root, .int .i64 cost, .int .i64 bridge, .int .i64 port, .int .i64 age, .int .i64 role, .bool change] 25)).cell? ⟨w.heap.size, 1, none⟩ = some (.int .i64 cost) := y0.cell 1
    have q0_2 : (u4.alloc (.cells #[.int .i64 root, .int .i64 cost, .int .i64 bridge, .int .i64 port, .int .i64 age, .int .i64 role, .bool change] 25)).cell? ⟨w.heap.size, 2, none⟩ = some (.int .i64 bridge) := y0.cell 2
    have q0_3 : (u4.alloc (.cells #[.int .i64 root, .int .i64 cost, .int .i64 bridge, .int .i64 port, .int .i64 age, .int .i64 role, .bool change] 25)).cell? ⟨w.heap.size, 3, none⟩ = some (.int .i64 port) := y0.cell 3
    have q0_4 : (u4.alloc (.cells #[.int .i64 root, .int .i64 cost, .int .i64 bridge, .int .i64 port, .int .i64 age, .int .i64 role, .bool change] 25)).cell? ⟨w.heap.size, 4, none⟩ = some (.int .i64 age) := y0.cell 4
    have q0_5 : (u4.alloc (.cells #[.int .i64 root, .int .i64 cost, .int .i64 bridge, .int .i64 port, .int .i64 age, .int .i64 role, .bool change] 25)).cell? ⟨w.heap.size, 5, none⟩ = some (.int .i64 role) := y0.cell 5
    have q0_6 : (u4.alloc (.cells #[.int .i64 root, .int .i64 cost, .int .i64 bridge, .int .i64 port, .int .i64 age, .int .i64 role, .bool change] 25)).cell? ⟨w.heap.size, 6, none⟩ = some (.bool change) := y0.cell 6
    clear y0
    go_wp2_with fail
    refine (HF _).mono ?_
    rintro e u5 ⟨rfl, bb⟩
    have z1 := Blk.below (Blk.new u4 25 #[.int .i64 root, .int .i64 cost, .int .i64 bridge, .int .i64 port, .int .i64 age, .int .i64 role, .bool change]) bb (by simp)
    replace z0 := Blk.below (z0.alloc _) bb (by have := z0.lt; simp; omega)
    replace bel := (bel.alloc bel.size _).trans (bb.mono (by have := bel.size; simp; omega))
    clear bb
    clear q0_0 q0_1 q0_2 q0_3 q0_4 q0_5 q0_6
    have q0_0 : u5.cell? ⟨w.heap.size, 0, none⟩ = some (.int .i64 root) := z0.cell 0
    have q0_1 : u5.cell? ⟨w.heap.size, 1, none⟩ = some (.int .i64 cost) := z0.cell 1
    have q0_2 : u5.cell? ⟨w.heap.size, 2, none⟩ = some (.int .i64 bridge) := z0.cell 2
    have q0_3 : u5.cell? ⟨w.heap.size, 3, none⟩ = some (.int .i64 port) := z0.cell 3
    have q0_4 : u5.cell? ⟨w.heap.size, 4, none⟩ = some (.int .i64 age) := z0.cell 4
    have q0_5 : u5.cell? ⟨w.heap.size, 5, none⟩ = some (.int .i64 role) := z0.cell 5
    have q0_6 : u5.cell? ⟨w.heap.size, 6, none⟩ = some (.bool change) := z0.cell 6
    have q1_0 : u5.cell? ⟨u4.heap.size, 0, none⟩ = some (.int .i64 root) := z1.cell 0
    have q1_1 : u5.cell? ⟨u4.heap.size, 1, none⟩ = some (.int .i64 cost) := z1.cell 1
    have q1_2 : u5.cell? ⟨u4.heap.size, 2, none⟩ = some (.int .i64 bridge) := z1.cell 2
    have q1_3 : u5.cell? ⟨u4.heap.size, 3, none⟩ = some (.int .i64 port) := z1.cell 3
    have q1_4 : u5.cell? ⟨u4.heap.size, 4, none⟩ = some (.int .i64 age) := z1.cell 4
    have q1_5 : u5.cell? ⟨u4.heap.size, 5, none⟩ = some (.int .i64 role) := z1.cell 5
    have q1_6 : u5.cell? ⟨u4.heap.size, 6, none⟩ = some (.bool change) := z1.cell 6
    go_wp2_with fail
    go_ret
    exact ⟨rfl, bel⟩
set_option maxRecDepth 100000 in
theorem liftedBpduBytes (os : Os) (started : os.Started) (H : Type) (enc : TypeId × Value → H) :
    ReturnsInHanded {} Try.checked os 3 .any (Rows.bpduBytesSpec.pre6 enc Try.prog Try.f3 Rows.bpduBytesRow.domain false) (Rows.bpduBytesSpec.post enc Try.prog Try.f3 false true false false) := by
  refine returnsInHanded_of_change (C := Try.checked) own started (by kernel_rfl) Try.func3
    (ChangeSpec.witness6 (enc := enc) (C := Try.checked) false ⟨#[], #[.agg #[.int .i64 0, .int .i64 0, .int .i64 0, .int .i64 0, .int .i64 0, .int .i64 0, .bool false]], []⟩ 8 (by kernel_rfl) (by kernel_rfl) (by kernel_rfl) (by kernel_rfl)) ?_
  intro W base args ds gs before hval0 hW hcnd _
  have hval : ∀ (j : Nat) t v, Try.f3.params[j]? = some t → args[j]? = some v → Value.okWide Try.prog W .any base t v := hval0
  have hW' := hW
  obtain ⟨p, q, hA0, hV, rfl, hfz, hnd⟩ := hW
  have hA : DataW.TrodAll enc Try.prog W 0 (fun _ => true) true Try.f3.params.toList args.toList ds p := hA0
  rw [Try.params3] at hA hval
  obtain ⟨v0, vs0, d0, ds0, p0, q0, hargs, rfl, rfl, h0, r0⟩ := trodAll_cons hA
  obtain ⟨rfl, rfl, rfl⟩ := trodAll_nil r0
  obtain rfl : args = #[v0] := by cases args; simp_all
  obtain ⟨rfl, rfl⟩ := trodVars_none hV
  have k0 := h0
  have lt0 : ∀ x ∈ p0, x.block < W.heap.size := by obtain ⟨m, hm⟩ := k0; exact DataW.trod_lt m _ _ _ hm
  obtain ⟨b0, rfl, w0⟩ := open_bp (hval 0 25 v0 rfl rfl) h0
  clear hA0 hval0
  refine (walkBpduBytes b0 W w0).mono fun e W' ⟨he, bel⟩ => ?_
  subst he
  exact ⟨_, rfl, _, _, _, [], _, [], hW', trodAll_mk1 (shut_bool Try.underlying4 _), (trodAll_cons_mk (Below.trod laidOut (by kernel_rfl) (of_decide_eq_true (by kernel_rfl)) k0 bel lt0) trodAll_mk0), rfl, bel.frame _, fun h => by cases h⟩

theorem overBpduBytes : Rows.bpduBytesRow.holds Try.pinned (OpenSpec.ofChange Rows.bpduBytesSpec) :=
  OpenClaim.holds_of_wide 3 Try.f3 rfl rfl rfl rfl rfl rfl rfl ⟨rfl, rfl, rfl, rfl, rfl⟩ rfl rfl rfl rfl rfl (by kernel_rfl) Try.func3 (by kernel_rfl)
    (of_decide_eq_true (by kernel_rfl)) (by unfold Func.isWrapper; first | (rw [if_pos (by decide +kernel)]; kernel_rfl) | (rw [if_neg (by decide +kernel)]; exact ⟨rfl, rfl⟩))
    (fun os started H enc _ => liftedBpduBytes os started H enc)

/-- The statement. -/
theorem bpduBytes_holds : Rows.BpduBytesSaid := overBpduBytes

#print axioms bpduBytes_holds
end Go.Proofs.Ytkghaemnjfiliaa
