/- bpdu's Good, and the document's. Its condition: each number of the message is an int. -/
import Derived.Test.YtadejdhdkkfliaaBel
import Derived.Test.YtadejdhdkkfliaaBpName
import Derived.Test.YtadejdhdkkfliaaBpDef
namespace Go.Proofs.Ytadejdhdkkfliaa
open Go.RowKit

def InI (a : Int) : Prop := -9223372036854775808 ≤ a ∧ a ≤ 9223372036854775807
structure Bp.int (b : Bp) : Prop where
  root : InI b.root
  cost : InI b.cost
  bridge : InI b.bridge
  port : InI b.port
  age : InI b.age
  role : InI b.role


set_option maxHeartbeats 1000000 in
theorem vec_any (root cost bridge port : Int) (hr : InI root) (hb : InI bridge) (w : World) :
    Calls Try.prog 57 #[.agg #[.int .i64 root, .int .i64 cost, .int .i64 bridge, .int .i64 port]] w fun e w' => e = .returned (.bool (vecB root cost bridge port)) ∧ Below w.heap.size w w' := by
  have hb0 := bel_alloc w (.cells #[.int .i64 root, .int .i64 cost, .int .i64 bridge, .int .i64 port] 32)
  have HR := Lib.hid hr.2
  have HB := Lib.hid hb.2
  obtain ⟨b1, H1⟩ : ∃ b, Hid (nameB root = b) := ⟨_, Lib.hid rfl⟩
  obtain ⟨b2, H2⟩ : ∃ b, Hid (nameB bridge = b) := ⟨_, Lib.hid rfl⟩
  have HV : vecB root cost bridge port = (b1 && b2 && costB cost && portB port) := by rw [← H1.out, ← H2.out]; rfl
  clear hr hb
  cases b1
  · rw [HV, Bool.false_and, Bool.false_and, Bool.false_and]
    clear HV
    go_enter Try.func57, Try.ntmps57
    go_wp2_with (go_at_call 34; refine (bridge_any _ HR.out _).mono ?_; rw [H1.out]; rintro e w' ⟨rfl, rfl⟩)
    go_ret
    exact ⟨rfl, hb0⟩
  cases b2
  · rw [HV, Bool.and_false, Bool.false_and, Bool.false_and]
    clear HV
    go_enter Try.func57, Try.ntmps57
    go_wp2_with (go_at_call 34; first | ((with_reducible (refine (bridge_any root HR.out _).mono ?_)); rw [H1.out]; rintro e w' ⟨rfl, rfl⟩) | ((with_reducible (refine (bridge_any bridge HB.out _).mono ?_)); rw [H2.out]; rintro e w' ⟨rfl, rfl⟩))
    go_ret
    exact ⟨rfl, hb0⟩
  rw [HV, Bool.true_and, Bool.true_and]
  clear HV
  by_cases c0 : 0 ≤ cost
  rotate_left
  · rw [show costB cost = false from decide_eq_false (by omega), Bool.false_and]
    go_enter Try.func57, Try.ntmps57
    go_wp2_with (go_at_call 34; first | ((with_reducible (refine (bridge_any root HR.out _).mono ?_)); rw [H1.out]; rintro e w' ⟨rfl, rfl⟩) | ((with_reducible (refine (bridge_any bridge HB.out _).mono ?_)); rw [H2.out]; rintro e w' ⟨rfl, rfl⟩))
    go_ret
    exact ⟨rfl, hb0⟩
  by_cases c1 : cost ≤ 2147483647
  rotate_left
  · rw [show costB cost = false from decide_eq_false (by omega), Bool.false_and]
    go_enter Try.func57, Try.ntmps57
    go_wp2_with (go_at_call 34; first | ((with_reducible (refine (bridge_any root HR.out _).mono ?_)); rw [H1.out]; rintro e w' ⟨rfl, rfl⟩) | ((with_reducible (refine (bridge_any bridge HB.out _).mono ?_)); rw [H2.out]; rintro e w' ⟨rfl, rfl⟩))
    go_ret
    exact ⟨rfl, hb0⟩
  rw [show costB cost = true from decide_eq_true ⟨c0, c1⟩, Bool.true_and]
  by_cases p0 : 0 ≤ port
  rotate_left
  · rw [show portB port = false from decide_eq_false (by omega)]
    go_enter Try.func57, Try.ntmps57
    go_wp2_with (go_at_call 34; first | ((with_reducible (refine (bridge_any root HR.out _).mono ?_)); rw [H1.out]; rintro e w' ⟨rfl, rfl⟩) | ((with_reducible (refine (bridge_any bridge HB.out _).mono ?_)); rw [H2.out]; rintro e w' ⟨rfl, rfl⟩))
    go_ret
    exact ⟨rfl, hb0⟩
  by_cases p1 : port < 6
  · rw [show portB port = true from decide_eq_true (by omega)]
    go_enter Try.func57, Try.ntmps57
    go_wp2_with (go_at_call 34; first | ((with_reducible (refine (bridge_any root HR.out _).mono ?_)); rw [H1.out]; rintro e w' ⟨rfl, rfl⟩) | ((with_reducible (refine (bridge_any bridge HB.out _).mono ?_)); rw [H2.out]; rintro e w' ⟨rfl, rfl⟩))
    go_ret
    exact ⟨rfl, hb0⟩
  · rw [show portB port = false from decide_eq_false (by omega)]
    go_enter Try.func57, Try.ntmps57
    go_wp2_with (go_at_call 34; first | ((with_reducible (refine (bridge_any root HR.out _).mono ?_)); rw [H1.out]; rintro e w' ⟨rfl, rfl⟩) | ((with_reducible (refine (bridge_any bridge HB.out _).mono ?_)); rw [H2.out]; rintro e w' ⟨rfl, rfl⟩))
    go_ret
    exact ⟨ret_bool (decide_eq_false (by omega)), hb0⟩
/-! the message -/
theorem bel_in {w w1 w' : World} {o : Obj} (h : w1 = w.alloc o) (hb : Below w1.heap.size w1 w') : Below w.heap.size w w' := by subst h; exact (bel_alloc w o).trans (hb.mono (by simp))
set_option maxHeartbeats 1000000 in
theorem bgood_any (b : Bp) (hi : b.int) (w : World) :
    Calls Try.prog 40 #[b.v] w fun e w' => e = .returned (.bool b.good) ∧ Below w.heap.size w w' := by
  obtain ⟨root, cost, bridge, port, age, role, change⟩ := b
  have hr : InI root := hi.root
  have hg : InI bridge := hi.bridge
  have hv : Bp.v ⟨root, cost, bridge, port, age, role, change⟩ = .agg #[.int .i64 root, .int .i64 cost, .int .i64 bridge, .int .i64 port, .int .i64 age, .int .i64 role, .bool change] := rfl
  rw [hv]
  have hblk := Blk.new w 34 #[.int .i64 root, .int .i64 cost, .int .i64 bridge, .int .i64 port, .int .i64 age, .int .i64 role, .bool change]
  obtain ⟨b1, H1⟩ : ∃ b, Hid (vecB root cost bridge port = b) := ⟨_, Lib.hid rfl⟩
  have HV : Bp.good ⟨root, cost, bridge, port, age, role, change⟩ = (b1 && ageB age && roleB role) := by rw [← H1.out]; rfl
  clear hi hv
  have HR := Lib.hid hr
  have HG := Lib.hid hg
  clear hr hg
  cases b1
  · rw [HV, Bool.false_and, Bool.false_and]
    clear HV
    go_enter Try.func40, Try.ntmps40
    go_wp2_with (go_at_call 57; refine (vec_any _ _ _ _ HR.out HG.out _).mono ?_; rw [H1.out]; rintro e w4 ⟨rfl, hb4⟩; have hk4 := hblk.below hb4 (by simp); have c4 := hk4.cell 4; have c5 := hk4.cell 5)
    go_ret
    exact ⟨rfl, bel_in rfl hb4⟩
  rw [HV, Bool.true_and]
  clear HV
  by_cases a0 : 0 ≤ age
  rotate_left
  · rw [show ageB age = false from decide_eq_false (by omega), Bool.false_and]
    go_enter Try.func40, Try.ntmps40
    go_wp2_with (go_at_call 57; refine (vec_any _ _ _ _ HR.out HG.out _).mono ?_; rw [H1.out]; rintro e w4 ⟨rfl, hb4⟩; have hk4 := hblk.below hb4 (by simp); have c4 := hk4.cell 4; have c5 := hk4.cell 5)
    go_ret
    exact ⟨rfl, bel_in rfl hb4⟩
  by_cases a1 : age ≤ 10
  rotate_left
  · rw [show ageB age = false from decide_eq_false (by omega), Bool.false_and]
    go_enter Try.func40, Try.ntmps40
    go_wp2_with (go_at_call 57; refine (vec_any _ _ _ _ HR.out HG.out _).mono ?_; rw [H1.out]; rintro e w4 ⟨rfl, hb4⟩; have hk4 := hblk.below hb4 (by simp); have c4 := hk4.cell 4; have c5 := hk4.cell 5)
    go_ret
    exact ⟨rfl, bel_in rfl hb4⟩
  rw [show ageB age = true from decide_eq_true ⟨a0, a1⟩, Bool.true_and]
  by_cases r0 : 0 ≤ role
  rotate_left
  · rw [show roleB role = false from decide_eq_false (by omega)]
    go_enter Try.func40, Try.ntmps40
    go_wp2_with (go_at_call 57; refine (vec_any _ _ _ _ HR.out HG.out _).mono ?_; rw [H1.out]; rintro e w4 ⟨rfl, hb4⟩; have hk4 := hblk.below hb4 (by simp); have c4 := hk4.cell 4; have c5 := hk4.cell 5)
    go_ret
    exact ⟨rfl, bel_in rfl hb4⟩
  by_cases r1 : role ≤ 3
  · rw [show roleB role = true from decide_eq_true ⟨r0, r1⟩]
    go_enter Try.func40, Try.ntmps40
    go_wp2_with (go_at_call 57; refine (vec_any _ _ _ _ HR.out HG.out _).mono ?_; rw [H1.out]; rintro e w4 ⟨rfl, hb4⟩; have hk4 := hblk.below hb4 (by simp); have c4 := hk4.cell 4; have c5 := hk4.cell 5)
    go_ret
    exact ⟨rfl, bel_in rfl hb4⟩
  · rw [show roleB role = false from decide_eq_false (by omega)]
    go_enter Try.func40, Try.ntmps40
    go_wp2_with (go_at_call 57; refine (vec_any _ _ _ _ HR.out HG.out _).mono ?_; rw [H1.out]; rintro e w4 ⟨rfl, hb4⟩; have hk4 := hblk.below hb4 (by simp); have c4 := hk4.cell 4; have c5 := hk4.cell 5)
    go_ret
    exact ⟨ret_bool (decide_eq_false (by omega)), bel_in rfl hb4⟩
set_option maxHeartbeats 1000000 in
theorem rbgood_any (b : Bp) (hi : b.int) (w : World) :
    Calls Try.prog 26 #[b.v] w fun e w' => e = .returned (.bool b.good) ∧ Below w.heap.size w w' := by
  obtain ⟨root, cost, bridge, port, age, role, change⟩ := b
  have hr := hi.root.2
  have hg := hi.bridge.2
  simp only at hr hg
  have hv : Bp.v ⟨root, cost, bridge, port, age, role, change⟩ = .agg #[.int .i64 root, .int .i64 cost, .int .i64 bridge, .int .i64 port, .int .i64 age, .int .i64 role, .bool change] := rfl
  rw [hv]
  have hb0 := bel_alloc w (.cells #[.int .i64 root, .int .i64 cost, .int .i64 bridge, .int .i64 port, .int .i64 age, .int .i64 role, .bool change] 34)
  obtain ⟨b1, H1⟩ : ∃ b, Hid (nameB root = b) := ⟨_, Lib.hid rfl⟩
  obtain ⟨b2, H2⟩ : ∃ b, Hid (nameB bridge = b) := ⟨_, Lib.hid rfl⟩
  have HV : Bp.good ⟨root, cost, bridge, port, age, role, change⟩ = (b1 && b2 && costB cost && portB port && ageB age && roleB role) := by rw [← H1.out, ← H2.out]; rfl
  have HR := Lib.hid hr
  have HG := Lib.hid hg
  clear hi hv hr hg
  cases b1
  · rw [HV, Bool.false_and, Bool.false_and, Bool.false_and, Bool.false_and, Bool.false_and]
    clear HV
    go_enter Try.func26, Try.ntmps26
    go_wp2_with (go_at_call 11; first | ((with_reducible (refine (rbridge_any root HR.out _).mono ?_)); rw [H1.out]; rintro e w' ⟨rfl, rfl⟩) | ((with_reducible (refine (rbridge_any bridge HG.out _).mono ?_)); rw [H2.out]; rintro e w' ⟨rfl, rfl⟩))
    go_ret
    exact ⟨rfl, hb0⟩
  cases b2
  · rw [HV, Bool.and_false, Bool.false_and, Bool.false_and, Bool.false_and, Bool.false_and]
    clear HV
    go_enter Try.func26, Try.ntmps26
    go_wp2_with (go_at_call 11; first | ((with_reducible (refine (rbridge_any root HR.out _).mono ?_)); rw [H1.out]; rintro e w' ⟨rfl, rfl⟩) | ((with_reducible (refine (rbridge_any bridge HG.out _).mono ?_)); rw [H2.out]; rintro e w' ⟨rfl, rfl⟩))
    go_ret
    exact ⟨rfl, hb0⟩
  rw [HV, Bool.true_and, Bool.true_and]
  clear HV
  by_cases x0 : 0 ≤ cost
  rotate_left
  · rw [show costB cost = false from decide_eq_false (by omega), Bool.false_and, Bool.false_and, Bool.false_and]
    go_enter Try.func26, Try.ntmps26
    go_wp2_with (go_at_call 11; first | ((with_reducible (refine (rbridge_any root HR.out _).mono ?_)); rw [H1.out]; rintro e w' ⟨rfl, rfl⟩) | ((with_reducible (refine (rbridge_any bridge HG.out _).mono ?_)); rw [H2.out]; rintro e w' ⟨rfl, rfl⟩))
    go_ret
    exact ⟨rfl, hb0⟩
  by_cases x1 : cost < 2147483648
  rotate_left
  · rw [show costB cost = false from decide_eq_false (by omega), Bool.false_and, Bool.false_and, Bool.false_and]
    go_enter Try.func26, Try.ntmps26
    go_wp2_with (go_at_call 11; first | ((with_reducible (refine (rbridge_any root HR.out _).mono ?_)); rw [H1.out]; rintro e w' ⟨rfl, rfl⟩) | ((with_reducible (refine (rbridge_any bridge HG.out _).mono ?_)); rw [H2.out]; rintro e w' ⟨rfl, rfl⟩))
    go_ret
    exact ⟨rfl, hb0⟩
  rw [show costB cost = true from decide_eq_true (by omega), Bool.true_and]
  have cost0 := x0
  have cost1 := x1
  clear x0 x1
  by_cases x0 : 0 ≤ port
  rotate_left
  · rw [show portB port = false from decide_eq_false (by omega), Bool.false_and, Bool.false_and]
    go_enter Try.func26, Try.ntmps26
    go_wp2_with (go_at_call 11; first | ((with_reducible (refine (rbridge_any root HR.out _).mono ?_)); rw [H1.out]; rintro e w' ⟨rfl, rfl⟩) | ((with_reducible (refine (rbridge_any bridge HG.out _).mono ?_)); rw [H2.out]; rintro e w' ⟨rfl, rfl⟩))
    go_ret
    exact ⟨rfl, hb0⟩
  by_cases x1 : port ≤ 5
  rotate_left
  · rw [show portB port = false from decide_eq_false (by omega), Bool.false_and, Bool.false_and]
    go_enter Try.func26, Try.ntmps26
    go_wp2_with (go_at_call 11; first | ((with_reducible (refine (rbridge_any root HR.out _).mono ?_)); rw [H1.out]; rintro e w' ⟨rfl, rfl⟩) | ((with_reducible (refine (rbridge_any bridge HG.out _).mono ?_)); rw [H2.out]; rintro e w' ⟨rfl, rfl⟩))
    go_ret
    exact ⟨rfl, hb0⟩
  rw [show portB port = true from decide_eq_true (by omega), Bool.true_and]
  have port0 := x0
  have port1 := x1
  clear x0 x1
  by_cases x0 : 0 ≤ age
  rotate_left
  · rw [show ageB age = false from decide_eq_false (by omega), Bool.false_and]
    go_enter Try.func26, Try.ntmps26
    go_wp2_with (go_at_call 11; first | ((with_reducible (refine (rbridge_any root HR.out _).mono ?_)); rw [H1.out]; rintro e w' ⟨rfl, rfl⟩) | ((with_reducible (refine (rbridge_any bridge HG.out _).mono ?_)); rw [H2.out]; rintro e w' ⟨rfl, rfl⟩))
    go_ret
    exact ⟨rfl, hb0⟩
  by_cases x1 : age ≤ 10
  rotate_left
  · rw [show ageB age = false from decide_eq_false (by omega), Bool.false_and]
    go_enter Try.func26, Try.ntmps26
    go_wp2_with (go_at_call 11; first | ((with_reducible (refine (rbridge_any root HR.out _).mono ?_)); rw [H1.out]; rintro e w' ⟨rfl, rfl⟩) | ((with_reducible (refine (rbridge_any bridge HG.out _).mono ?_)); rw [H2.out]; rintro e w' ⟨rfl, rfl⟩))
    go_ret
    exact ⟨rfl, hb0⟩
  rw [show ageB age = true from decide_eq_true (by omega), Bool.true_and]
  have age0 := x0
  have age1 := x1
  clear x0 x1
  by_cases x0 : 0 ≤ role
  rotate_left
  · rw [show roleB role = false from decide_eq_false (by omega)]
    go_enter Try.func26, Try.ntmps26
    go_wp2_with (go_at_call 11; first | ((with_reducible (refine (rbridge_any root HR.out _).mono ?_)); rw [H1.out]; rintro e w' ⟨rfl, rfl⟩) | ((with_reducible (refine (rbridge_any bridge HG.out _).mono ?_)); rw [H2.out]; rintro e w' ⟨rfl, rfl⟩))
    go_ret
    exact ⟨rfl, hb0⟩
  by_cases x1 : role ≤ 3
  · rw [show roleB role = true from decide_eq_true (by omega)]
    go_enter Try.func26, Try.ntmps26
    go_wp2_with (go_at_call 11; first | ((with_reducible (refine (rbridge_any root HR.out _).mono ?_)); rw [H1.out]; rintro e w' ⟨rfl, rfl⟩) | ((with_reducible (refine (rbridge_any bridge HG.out _).mono ?_)); rw [H2.out]; rintro e w' ⟨rfl, rfl⟩))
    go_ret
    exact ⟨rfl, hb0⟩
  · rw [show roleB role = false from decide_eq_false (by omega)]
    go_enter Try.func26, Try.ntmps26
    go_wp2_with (go_at_call 11; first | ((with_reducible (refine (rbridge_any root HR.out _).mono ?_)); rw [H1.out]; rintro e w' ⟨rfl, rfl⟩) | ((with_reducible (refine (rbridge_any bridge HG.out _).mono ?_)); rw [H2.out]; rintro e w' ⟨rfl, rfl⟩))
    go_ret
    exact ⟨ret_bool (decide_eq_false (by omega)), hb0⟩
end Go.Proofs.Ytadejdhdkkfliaa

