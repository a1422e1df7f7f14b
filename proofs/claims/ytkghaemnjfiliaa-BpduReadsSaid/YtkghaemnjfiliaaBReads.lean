/- Bytes that are read are those of what is read, which can be; others are refused. No condition. -/
import Derived.Test.YtkghaemnjfiliaaFrame
import Derived.Test.YtkghaemnjfiliaaBpAlive
import Derived.Test.YtkghaemnjfiliaaBpRef
import Derived.Test.YtkghaemnjfiliaaBpOpen

namespace Go.Proofs.Ytkghaemnjfiliaa
open Go.RowKit Go.ChangeShapes Go.WideShapes
open Go.ChangeMaps (open_string shut_string)

set_option maxHeartbeats 4000000 in
theorem walkBpduReads (s : ByteArray) (w : World) (_hs : s.size ≤ maxLen) :
    Calls Try.prog 4 #[.string s] w fun e w' => e = .returned (.bool true) ∧ Below w.heap.size w w' := by
  by_cases h3 : 300 < s.size
  · go_enter Try.func4, Try.ntmps4
    go_wp2_with (go_at_call 8; refine (balive_any _).mono ?_; rintro e w' ⟨rfl, rfl⟩)
    go_ret
    exact ⟨rfl, Below.refl _ _⟩
  have hr := fun w => bread_any s w (by omega)
  obtain ⟨b, hb⟩ : ∃ b, Bp.parse s = b := ⟨_, rfl⟩
  have hi := parse_int s
  rw [hb] at hi
  cases hw : b.whole s
  · have hv : breadV s = .tuple #[Bp.zero.v, .int .i64 4] := by rw [breadV, hb, if_neg (by simp [hw])]
    rw [hv] at hr
    clear hv hb hi hw
    simp only [Bp.zero, Bp.v, Bp.cells] at hr
    go_enter Try.func4, Try.ntmps4
    go_wp2_with (go_at_call 8; refine (balive_any _).mono ?_; rintro e w' ⟨rfl, rfl⟩)
    refine (hr _).mono ?_
    rintro e w1 ⟨rfl, b1⟩
    go_wp2_with fail
    go_ret
    exact ⟨rfl, b1.alloc b1.size _⟩
  · have hv : breadV s = .tuple #[b.v, .int .i64 0] := by rw [breadV, hb, if_pos hw]
    rw [hv] at hr
    simp only [Bp.whole, Bool.and_eq_true, decide_eq_true_eq] at hw
    obtain ⟨hg, hraw⟩ := hw
    have HG := fun w => rbgood_any b hi w
    have HB := fun w => rbytes_any b hg w
    rw [hg] at HG
    rw [hraw] at HB
    clear hv hb hi hg hraw
    obtain ⟨root, cost, bridge, port, age, role, change⟩ := b
    simp only [Bp.v, Bp.cells] at hr HG HB
    go_enter Try.func4, Try.ntmps4
    go_wp2_with (go_at_call 8; refine (balive_any _).mono ?_; rintro e w' ⟨rfl, rfl⟩)
    refine (hr _).mono ?_
    rintro e w1 ⟨rfl, b1⟩
    go_wp2_with fail
    refine (HG _).mono ?_
    rintro e w2 ⟨rfl, b2⟩
    have zb := Blk.below (Blk.new w1 25 #[.int .i64 root, .int .i64 cost, .int .i64 bridge, .int .i64 port, .int .i64 age, .int .i64 role, .bool change]) b2 (by simp)
    have q0 : w2.cell? ⟨w1.heap.size, 0, none⟩ = some (.int .i64 root) := zb.cell 0
    have q1 : w2.cell? ⟨w1.heap.size, 1, none⟩ = some (.int .i64 cost) := zb.cell 1
    have q2 : w2.cell? ⟨w1.heap.size, 2, none⟩ = some (.int .i64 bridge) := zb.cell 2
    have q3 : w2.cell? ⟨w1.heap.size, 3, none⟩ = some (.int .i64 port) := zb.cell 3
    have q4 : w2.cell? ⟨w1.heap.size, 4, none⟩ = some (.int .i64 age) := zb.cell 4
    have q5 : w2.cell? ⟨w1.heap.size, 5, none⟩ = some (.int .i64 role) := zb.cell 5
    have q6 : w2.cell? ⟨w1.heap.size, 6, none⟩ = some (.bool change) := zb.cell 6
    have bel2 := (b1.alloc b1.size (.cells #[.int .i64 root, .int .i64 cost, .int .i64 bridge, .int .i64 port, .int .i64 age, .int .i64 role, .bool change] 25)).trans (b2.mono (by have := b1.size; simp; omega))
    clear zb b1 b2
    go_wp2_with fail
    refine (HB _).mono ?_
    rintro e w3 ⟨rfl, b3⟩
    clear q0 q1 q2 q3 q4 q5 q6
    go_wp2_with fail
    go_ret
    exact ⟨rfl, bel2.trans (b3.mono bel2.size)⟩
set_option maxRecDepth 100000 in
theorem liftedBpduReads (os : Os) (started : os.Started) (H : Type) (enc : TypeId × Value → H) :
    ReturnsInHanded {} Try.checked os 4 .any (Rows.bpduReadsSpec.pre6 enc Try.prog Try.f4 Rows.bpduReadsRow.domain false) (Rows.bpduReadsSpec.post enc Try.prog Try.f4 false true false false) := by
  refine returnsInHanded_of_change (C := Try.checked) own started (by kernel_rfl) Try.func4
    (ChangeSpec.witness6 (enc := enc) (C := Try.checked) false ⟨#[], #[.string ⟨#[]⟩], []⟩ 8 (by kernel_rfl) (by kernel_rfl) (by kernel_rfl) (by kernel_rfl)) ?_
  intro W base args ds gs before hval0 hW hcnd _
  have hval : ∀ (j : Nat) t v, Try.f4.params[j]? = some t → args[j]? = some v → Value.okWide Try.prog W .any base t v := hval0
  have hW' := hW
  obtain ⟨p, q, hA0, hV, rfl, hfz, hnd⟩ := hW
  have hA : DataW.TrodAll enc Try.prog W 0 (fun _ => true) true Try.f4.params.toList args.toList ds p := hA0
  rw [Try.params4] at hA hval
  obtain ⟨v0, vs0, d0, ds0, p0, q0, hargs, rfl, rfl, h0, r0⟩ := trodAll_cons hA
  obtain ⟨rfl, rfl, rfl⟩ := trodAll_nil r0
  obtain rfl : args = #[v0] := by cases args; simp_all
  obtain ⟨rfl, rfl⟩ := trodVars_none hV
  obtain ⟨s0, rfl, rfl, rfl, w0⟩ := open_string Try.underlying9 (hval 0 9 v0 rfl rfl) h0
  clear hA0 hval0
  refine (walkBpduReads s0 W w0).mono fun e W' ⟨he, bel⟩ => ?_
  subst he
  exact ⟨_, rfl, _, _, _, [], _, [], hW', trodAll_mk1 (shut_bool Try.underlying4 _), (trodAll_cons_mk (shut_string Try.underlying9 w0) trodAll_mk0), rfl, bel.frame _, fun h => by cases h⟩

theorem overBpduReads : Rows.bpduReadsRow.holds Try.pinned (OpenSpec.ofChange Rows.bpduReadsSpec) :=
  OpenClaim.holds_of_wide 4 Try.f4 rfl rfl rfl rfl rfl rfl rfl ⟨rfl, rfl, rfl, rfl, rfl⟩ rfl rfl rfl rfl rfl (by kernel_rfl) Try.func4 (by kernel_rfl)
    (of_decide_eq_true (by kernel_rfl)) (by unfold Func.isWrapper; first | (rw [if_pos (by decide +kernel)]; kernel_rfl) | (rw [if_neg (by decide +kernel)]; exact ⟨rfl, rfl⟩))
    (fun os started H enc _ => liftedBpduReads os started H enc)

/-- The statement. -/
theorem bpduReads_holds : Rows.BpduReadsSaid := overBpduReads

#print axioms bpduReads_holds
end Go.Proofs.Ytkghaemnjfiliaa
