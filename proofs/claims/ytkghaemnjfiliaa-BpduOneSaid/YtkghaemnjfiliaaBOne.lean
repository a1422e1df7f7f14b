/- Two messages that can be have the same bytes just if they are the same. No condition. -/
import Derived.Test.YtkghaemnjfiliaaFrame
import Derived.Test.YtkghaemnjfiliaaBpAlive
import Derived.Test.YtkghaemnjfiliaaBpRef
import Derived.Test.YtkghaemnjfiliaaBpOpen
namespace Go.Proofs.Ytkghaemnjfiliaa
open Go.RowKit Go.ChangeShapes Go.WideShapes

def UnlikeB (a b : Bp) : Prop := ¬ a = b
theorem UnlikeB.absurd {root cost bridge port age role root' cost' bridge' port' age' role' : Int} {change change' : Bool} (h : UnlikeB ⟨root, cost, bridge, port, age, role, change⟩ ⟨root', cost', bridge', port', age', role', change'⟩)
    (h1 : root = root') (h2 : cost = cost') (h3 : bridge = bridge') (h4 : port = port') (h5 : age = age') (h6 : role = role') (h7 : change = change') : False := by
  apply h
  subst h1 h2 h3 h4 h5 h6 h7
  rfl
set_option maxHeartbeats 8000000 in
theorem walkBpduOne (a b : Bp) (w : World) (hi : a.int) (hj : b.int) :
    Calls Try.prog 7 #[a.v, b.v] w fun e w' => e = .returned (.bool true) ∧ Below w.heap.size w w' := by
  have e1 : (w.alloc (.cells a.cells 25)).heap.size = w.heap.size + 1 := by simp
  have z0 := (Blk.new w 25 a.cells).alloc (.cells b.cells 25)
  have z1 := Blk.new (w.alloc (.cells a.cells 25)) 25 b.cells
  rw [e1] at z1
  have bel := bel_alloc2 w (.cells a.cells 25) (.cells b.cells 25)
  have HR := fun w => rbgood_any a hi w
  have HS := fun w => rbgood_any b hj w
  clear e1
  cases hg : a.good
  · rw [hg] at HR
    clear hg hi hj HS
    obtain ⟨root, cost, bridge, port, age, role, change⟩ := a
    simp only [Bp.v, Bp.cells] at HR z0 z1 bel ⊢
    go_enter Try.func7, Try.ntmps7
    go_wp2_with (go_at_call 8; refine (balive_any _).mono ?_; rintro e w' ⟨rfl, rfl⟩)
    refine (HR _).mono ?_
    rintro e u1 ⟨rfl, bb⟩
    replace z0 := z0.below bb z0.lt
    replace bel := bel.trans (bb.mono bel.size)
    clear bb
    go_wp2_with fail
    go_ret
    exact ⟨rfl, bel⟩
  cases hh : b.good
  · rw [hg] at HR
    rw [hh] at HS
    clear hg hh hi hj
    obtain ⟨root, cost, bridge, port, age, role, change⟩ := a
    obtain ⟨root', cost', bridge', port', age', role', change'⟩ := b
    simp only [Bp.v, Bp.cells] at HR HS z0 z1 bel ⊢
    go_enter Try.func7, Try.ntmps7
    go_wp2_with (go_at_call 8; refine (balive_any _).mono ?_; rintro e w' ⟨rfl, rfl⟩)
    refine (HR _).mono ?_
    rintro e u1 ⟨rfl, bb⟩
    replace z0 := z0.below bb z0.lt
    replace z1 := z1.below bb z1.lt
    replace bel := bel.trans (bb.mono bel.size)
    clear bb
    have q0_0 : u1.cell? ⟨w.heap.size, 0, none⟩ = some (.int .i64 root) := z0.cell 0
    have q0_1 : u1.cell? ⟨w.heap.size, 1, none⟩ = some (.int .i64 cost) := z0.cell 1
    have q0_2 : u1.cell? ⟨w.heap.size, 2, none⟩ = some (.int .i64 bridge) := z0.cell 2
    have q0_3 : u1.cell? ⟨w.heap.size, 3, none⟩ = some (.int .i64 port) := z0.cell 3
    have q0_4 : u1.cell? ⟨w.heap.size, 4, none⟩ = some (.int .i64 age) := z0.cell 4
    have q0_5 : u1.cell? ⟨w.heap.size, 5, none⟩ = some (.int .i64 role) := z0.cell 5
    have q0_6 : u1.cell? ⟨w.heap.size, 6, none⟩ = some (.bool change) := z0.cell 6
    have q1_0 : u1.cell? ⟨w.heap.size + 1, 0, none⟩ = some (.int .i64 root') := z1.cell 0
    have q1_1 : u1.cell? ⟨w.heap.size + 1, 1, none⟩ = some (.int .i64 cost') := z1.cell 1
    have q1_2 : u1.cell? ⟨w.heap.size + 1, 2, none⟩ = some (.int .i64 bridge') := z1.cell 2
    have q1_3 : u1.cell? ⟨w.heap.size + 1, 3, none⟩ = some (.int .i64 port') := z1.cell 3
    have q1_4 : u1.cell? ⟨w.heap.size + 1, 4, none⟩ = some (.int .i64 age') := z1.cell 4
    have q1_5 : u1.cell? ⟨w.heap.size + 1, 5, none⟩ = some (.int .i64 role') := z1.cell 5
    have q1_6 : u1.cell? ⟨w.heap.size + 1, 6, none⟩ = some (.bool change') := z1.cell 6
    go_wp2_with fail
    refine (HS _).mono ?_
    rintro e u2 ⟨rfl, bb⟩
    clear q0_0 q0_1 q0_2 q0_3 q0_4 q0_5 q0_6 q1_0 q1_1 q1_2 q1_3 q1_4 q1_5 q1_6
    replace z0 := z0.below bb z0.lt
    replace z1 := z1.below bb z1.lt
    replace bel := bel.trans (bb.mono bel.size)
    clear bb
    go_wp2_with fail
    go_ret
    exact ⟨rfl, bel⟩
  have HB := fun w => bbytes_good a hi hg w
  have HC := fun w => bbytes_good b hj hh w
  have hX := braw_size a
  have hY := braw_size b
  have hinj := Lib.hid (fun h : a.raw = b.raw => bp_inj hg hh h)
  rw [hg] at HR
  rw [hh] at HS
  clear hg hh hi hj
  obtain ⟨X, hXX⟩ : ∃ T : ByteArray, (⟨a.raw.toArray⟩ : ByteArray) = T := ⟨_, rfl⟩
  obtain ⟨Y, hYY⟩ : ∃ T : ByteArray, (⟨b.raw.toArray⟩ : ByteArray) = T := ⟨_, rfl⟩
  rw [hXX] at HB hX
  rw [hYY] at HC hY
  by_cases hab : a = b
  · subst hab
    obtain rfl : X = Y := hXX.symm.trans hYY
    clear hinj hXX hYY HS HC hY
    obtain ⟨root, cost, bridge, port, age, role, change⟩ := a
    simp only [Bp.v, Bp.cells] at HR HB z0 z1 bel ⊢
    go_enter Try.func7, Try.ntmps7
    go_wp2_with (go_at_call 8; refine (balive_any _).mono ?_; rintro e w' ⟨rfl, rfl⟩)
    refine (HR _).mono ?_
    rintro e u1 ⟨rfl, bb⟩
    replace z0 := z0.below bb z0.lt
    replace z1 := z1.below bb z1.lt
    replace bel := bel.trans (bb.mono bel.size)
    clear bb
    have q0_0 : u1.cell? ⟨w.heap.size, 0, none⟩ = some (.int .i64 root) := z0.cell 0
    have q0_1 : u1.cell? ⟨w.heap.size, 1, none⟩ = some (.int .i64 cost) := z0.cell 1
    have q0_2 : u1.cell? ⟨w.heap.size, 2, none⟩ = some (.int .i64 bridge) := z0.cell 2
    have q0_3 : u1.cell? ⟨w.heap.size, 3, none⟩ = some (.int .i64 port) := z0.cell 3
    have q0_4 : u1.cell? ⟨w.heap.size, 4, none⟩ = some (.int .i64 age) := z0.cell 4
    have q0_5 : u1.cell? ⟨w.heap.size, 5, none⟩ = some (.int .i64 role) := z0.cell 5
    have q0_6 : u1.cell? ⟨w.heap.size, 6, none⟩ = some (.bool change) := z0.cell 6
    have q1_0 : u1.cell? ⟨w.heap.size + 1, 0, none⟩ = some (.int .i64 root) := z1.cell 0
    have q1_1 : u1.cell? ⟨w.heap.size + 1, 1, none⟩ = some (.int .i64 cost) := z1.cell 1
    have q1_2 : u1.cell? ⟨w.heap.size + 1, 2, none⟩ = some (.int .i64 bridge) := z1.cell 2
    have q1_3 : u1.cell? ⟨w.heap.size + 1, 3, none⟩ = some (.int .i64 port) := z1.cell 3
    have q1_4 : u1.cell? ⟨w.heap.size + 1, 4, none⟩ = some (.int .i64 age) := z1.cell 4
    have q1_5 : u1.cell? ⟨w.heap.size + 1, 5, none⟩ = some (.int .i64 role) := z1.cell 5
    have q1_6 : u1.cell? ⟨w.heap.size + 1, 6, none⟩ = some (.bool change) := z1.cell 6
    go_wp2_with fail
    refine (HR _).mono ?_
    rintro e u2 ⟨rfl, bb⟩
    clear q0_0 q0_1 q0_2 q0_3 q0_4 q0_5 q0_6 q1_0 q1_1 q1_2 q1_3 q1_4 q1_5 q1_6
    replace z0 := z0.below bb z0.lt
    replace z1 := z1.below bb z1.lt
    replace bel := bel.trans (bb.mono bel.size)
    clear bb
    have q0_0 : u2.cell? ⟨w.heap.size, 0, none⟩ = some (.int .i64 root) := z0.cell 0
    have q0_1 : u2.cell? ⟨w.heap.size, 1, none⟩ = some (.int .i64 cost) := z0.cell 1
    have q0_2 : u2.cell? ⟨w.heap.size, 2, none⟩ = some (.int .i64 bridge) := z0.cell 2
    have q0_3 : u2.cell? ⟨w.heap.size, 3, none⟩ = some (.int .i64 port) := z0.cell 3
    have q0_4 : u2.cell? ⟨w.heap.size, 4, none⟩ = some (.int .i64 age) := z0.cell 4
    have q0_5 : u2.cell? ⟨w.heap.size, 5, none⟩ = some (.int .i64 role) := z0.cell 5
    have q0_6 : u2.cell? ⟨w.heap.size, 6, none⟩ = some (.bool change) := z0.cell 6
    have q1_0 : u2.cell? ⟨w.heap.size + 1, 0, none⟩ = some (.int .i64 root) := z1.cell 0
    have q1_1 : u2.cell? ⟨w.heap.size + 1, 1, none⟩ = some (.int .i64 cost) := z1.cell 1
    have q1_2 : u2.cell? ⟨w.heap.size + 1, 2, none⟩ = some (.int .i64 bridge) := z1.cell 2
    have q1_3 : u2.cell? ⟨w.heap.size + 1, 3, none⟩ = some (.int .i64 port) := z1.cell 3
    have q1_4 : u2.cell? ⟨w.heap.size + 1, 4, none⟩ = some (.int .i64 age) := z1.cell 4
    have q1_5 : u2.cell? ⟨w.heap.size + 1, 5, none⟩ = some (.int .i64 role) := z1.cell 5
    have q1_6 : u2.cell? ⟨w.heap.size + 1, 6, none⟩ = some (.bool change) := z1.cell 6
    go_wp2_with fail
    refine (HB _).mono ?_
    rintro e u3 ⟨rfl, bb⟩
    clear q0_0 q0_1 q0_2 q0_3 q0_4 q0_5 q0_6 q1_0 q1_1 q1_2 q1_3 q1_4 q1_5 q1_6
    replace z0 := z0.below bb z0.lt
    replace z1 := z1.below bb z1.lt
    replace bel := bel.trans (bb.mono bel.size)
    clear bb
    have q0_0 : u3.cell? ⟨w.heap.size, 0, none⟩ = some (.int .i64 root) := z0.cell 0
    have q0_1 : u3.cell? ⟨w.heap.size, 1, none⟩ = some (.int .i64 cost) := z0.cell 1
    have q0_2 : u3.cell? ⟨w.heap.size, 2, none⟩ = some (.int .i64 bridge) := z0.cell 2
    have q0_3 : u3.cell? ⟨w.heap.size, 3, none⟩ = some (.int .i64 port) := z0.cell 3
    have q0_4 : u3.cell? ⟨w.heap.size, 4, none⟩ = some (.int .i64 age) := z0.cell 4
    have q0_5 : u3.cell? ⟨w.heap.size, 5, none⟩ = some (.int .i64 role) := z0.cell 5
    have q0_6 : u3.cell? ⟨w.heap.size, 6, none⟩ = some (.bool change) := z0.cell 6
    have q1_0 : u3.cell? ⟨w.heap.size + 1, 0, none⟩ = some (.int .i64 root) := z1.cell 0
    have q1_1 : u3.cell? ⟨w.heap.size + 1, 1, none⟩ = some (.int .i64 cost) := z1.cell 1
    have q1_2 : u3.cell? ⟨w.heap.size + 1, 2, none⟩ = some (.int .i64 bridge) := z1.cell 2
    have q1_3 : u3.cell? ⟨w.heap.size + 1, 3, none⟩ = some (.int .i64 port) := z1.cell 3
    have q1_4 : u3.cell? ⟨w.heap.size + 1, 4, none⟩ = some (.int .i64 age) := z1.cell 4
    have q1_5 : u3.cell? ⟨w.heap.size + 1, 5, none⟩ = some (.int .i64 role) := z1.cell 5
    have q1_6 : u3.cell? ⟨w.heap.size + 1, 6, none⟩ = some (.bool change) := z1.cell 6
    go_wp2_with fail
    refine (HB _).mono ?_
    rintro e u4 ⟨rfl, bb⟩
    clear q0_0 q0_1 q0_2 q0_3 q0_4 q0_5 q0_6 q1_0 q1_1 q1_2 q1_3 q1_4 q1_5 q1_6
    replace z0 := z0.below bb z0.lt
    replace z1 := z1.below bb z1.lt
    replace bel := bel.trans (bb.mono bel.size)
    clear bb
    have q0_0 : u4.cell? ⟨w.heap.size, 0, none⟩ = some (.int .i64 root) := z0.cell 0
    have q0_1 : u4.cell? ⟨w.heap.size, 1, none⟩ = some (.int .i64 cost) := z0.cell 1
    have q0_2 : u4.cell? ⟨w.heap.size, 2, none⟩ = some (.int .i64 bridge) := z0.cell 2
    have q0_3 : u4.cell? ⟨w.heap.size, 3, none⟩ = some (.int .i64 port) := z0.cell 3
    have q0_4 : u4.cell? ⟨w.heap.size, 4, none⟩ = some (.int .i64 age) := z0.cell 4
    have q0_5 : u4.cell? ⟨w.heap.size, 5, none⟩ = some (.int .i64 role) := z0.cell 5
    have q0_6 : u4.cell? ⟨w.heap.size, 6, none⟩ = some (.bool change) := z0.cell 6
    have q1_0 : u4.cell? ⟨w.heap.size + 1, 0, none⟩ = some (.int .i64 root) := z1.cell 0
    have q1_1 : u4.cell? ⟨w.heap.size + 1, 1, none⟩ = some (.int .i64 cost) := z1.cell 1
    have q1_2 : u4.cell? ⟨w.heap.size + 1, 2, none⟩ = some (.int .i64 bridge) := z1.cell 2
    have q1_3 : u4.cell? ⟨w.heap.size + 1, 3, none⟩ = some (.int .i64 port) := z1.cell 3
    have q1_4 : u4.cell? ⟨w.heap.size + 1, 4, none⟩ = some (.int .i64 age) := z1.cell 4
    have q1_5 : u4.cell? ⟨w.heap.size + 1, 5, none⟩ = some (.int .i64 role) := z1.cell 5
    have q1_6 : u4.cell? ⟨w.heap.size + 1, 6, none⟩ = some (.bool change) := z1.cell 6
    go_wp2_with fail
    go_ret
    exact ⟨rfl, bel⟩
  have hne : (X.toList == Y.toList) = false := by
    have : X.toList ≠ Y.toList := fun e => hab (hinj.out (by rw [ByteArray.toList_eq, ByteArray.toList_eq, ← hXX, ← hYY] at e; simpa using e))
    simpa using this
  have HAB : Hid (UnlikeB _ _) := Lib.hid hab
  clear hinj hXX hYY hab
  obtain ⟨root, cost, bridge, port, age, role, change⟩ := a
  obtain ⟨root', cost', bridge', port', age', role', change'⟩ := b
  simp only [Bp.v, Bp.cells] at HR HS HB HC z0 z1 bel ⊢
  go_enter Try.func7, Try.ntmps7
  go_wp2_with (go_at_call 8; refine (balive_any _).mono ?_; rintro e w' ⟨rfl, rfl⟩)
  refine (HR _).mono ?_
  rintro e u1 ⟨rfl, bb⟩
  replace z0 := z0.below bb z0.lt
  replace z1 := z1.below bb z1.lt
  replace bel := bel.trans (bb.mono bel.size)
  clear bb
  have q0_0 : u1.cell? ⟨w.heap.size, 0, none⟩ = some (.int .i64 root) := z0.cell 0
  have q0_1 : u1.cell? ⟨w.heap.size, 1, none⟩ = some (.int .i64 cost) := z0.cell 1
  have q0_2 : u1.cell? ⟨w.heap.size, 2, none⟩ = some (.int .i64 bridge) := z0.cell 2
  have q0_3 : u1.cell? ⟨w.heap.size, 3, none⟩ = some (.int .i64 port) := z0.cell 3
  have q0_4 : u1.cell? ⟨w.heap.size, 4, none⟩ = some (.int .i64 age) := z0.cell 4
  have q0_5 : u1.cell? ⟨w.heap.size, 5, none⟩ = some (.int .i64 role) := z0.cell 5
  have q0_6 : u1.cell? ⟨w.heap.size, 6, none⟩ = some (.bool change) := z0.cell 6
  have q1_0 : u1.cell? ⟨w.heap.size + 1, 0, none⟩ = some (.int .i64 root') := z1.cell 0
  have q1_1 : u1.cell? ⟨w.heap.size + 1, 1, none⟩ = some (.int .i64 cost') := z1.cell 1
  have q1_2 : u1.cell? ⟨w.heap.size + 1, 2, none⟩ = some (.int .i64 bridge') := z1.cell 2
  have q1_3 : u1.cell? ⟨w.heap.size + 1, 3, none⟩ = some (.int .i64 port') := z1.cell 3
  have q1_4 : u1.cell? ⟨w.heap.size + 1, 4, none⟩ = some (.int .i64 age') := z1.cell 4
  have q1_5 : u1.cell? ⟨w.heap.size + 1, 5, none⟩ = some (.int .i64 role') := z1.cell 5
  have q1_6 : u1.cell? ⟨w.heap.size + 1, 6, none⟩ = some (.bool change') := z1.cell 6
  go_wp2_with fail
  refine (HS _).mono ?_
  rintro e u2 ⟨rfl, bb⟩
  clear q0_0 q0_1 q0_2 q0_3 q0_4 q0_5 q0_6 q1_0 q1_1 q1_2 q1_3 q1_4 q1_5 q1_6
  replace z0 := z0.below bb z0.lt
  replace z1 := z1.below bb z1.lt
  replace bel := bel.trans (bb.mono bel.size)
  clear bb
  have q0_0 : u2.cell? ⟨w.heap.size, 0, none⟩ = some (.int .i64 root) := z0.cell 0
  have q0_1 : u2.cell? ⟨w.heap.size, 1, none⟩ = some (.int .i64 cost) := z0.cell 1
  have q0_2 : u2.cell? ⟨w.heap.size, 2, none⟩ = some (.int .i64 bridge) := z0.cell 2
  have q0_3 : u2.cell? ⟨w.heap.size, 3, none⟩ = some (.int .i64 port) := z0.cell 3
  have q0_4 : u2.cell? ⟨w.heap.size, 4, none⟩ = some (.int .i64 age) := z0.cell 4
  have q0_5 : u2.cell? ⟨w.heap.size, 5, none⟩ = some (.int .i64 role) := z0.cell 5
  have q0_6 : u2.cell? ⟨w.heap.size, 6, none⟩ = some (.bool change) := z0.cell 6
  have q1_0 : u2.cell? ⟨w.heap.size + 1, 0, none⟩ = some (.int .i64 root') := z1.cell 0
  have q1_1 : u2.cell? ⟨w.heap.size + 1, 1, none⟩ = some (.int .i64 cost') := z1.cell 1
  have q1_2 : u2.cell? ⟨w.heap.size + 1, 2, none⟩ = some (.int .i64 bridge') := z1.cell 2
  have q1_3 : u2.cell? ⟨w.heap.size + 1, 3, none⟩ = some (.int .i64 port') := z1.cell 3
  have q1_4 : u2.cell? ⟨w.heap.size + 1, 4, none⟩ = some (.int .i64 age') := z1.cell 4
  have q1_5 : u2.cell? ⟨w.heap.size + 1, 5, none⟩ = some (.int .i64 role') := z1.cell 5
  have q1_6 : u2.cell? ⟨w.heap.size + 1, 6, none⟩ = some (.bool change') := z1.cell 6
  go_wp2_with fail
  refine (HB _).mono ?_
  rintro e u3 ⟨rfl, bb⟩
  clear q0_0 q0_1 q0_2 q0_3 q0_4 q0_5 q0_6 q1_0 q1_1 q1_2 q1_3 q1_4 q1_5 q1_6
  replace z0 := z0.below bb z0.lt
  replace z1 := z1.below bb z1.lt
  replace bel := bel.trans (bb.mono bel.size)
  clear bb
  have q0_0 : u3.cell? ⟨w.heap.size, 0, none⟩ = some (.int .i64 root) := z0.cell 0
  have q0_1 : u3.cell? ⟨w.heap.size, 1, none⟩ = some (.int .i64 cost) := z0.cell 1
  have q0_2 : u3.cell? ⟨w.heap.size, 2, none⟩ = some (.int .i64 bridge) := z0.cell 2
  have q0_3 : u3.cell? ⟨w.heap.size, 3, none⟩ = some (.int .i64 port) := z0.cell 3
  have q0_4 : u3.cell? ⟨w.heap.size, 4, none⟩ = some (.int .i64 age) := z0.cell 4
  have q0_5 : u3.cell? ⟨w.heap.size, 5, none⟩ = some (.int .i64 role) := z0.cell 5
  have q0_6 : u3.cell? ⟨w.heap.size, 6, none⟩ = some (.bool change) := z0.cell 6
  have q1_0 : u3.cell? ⟨w.heap.size + 1, 0, none⟩ = some (.int .i64 root') := z1.cell 0
  have q1_1 : u3.cell? ⟨w.heap.size + 1, 1, none⟩ = some (.int .i64 cost') := z1.cell 1
  have q1_2 : u3.cell? ⟨w.heap.size + 1, 2, none⟩ = some (.int .i64 bridge') := z1.cell 2
  have q1_3 : u3.cell? ⟨w.heap.size + 1, 3, none⟩ = some (.int .i64 port') := z1.cell 3
  have q1_4 : u3.cell? ⟨w.heap.size + 1, 4, none⟩ = some (.int .i64 age') := z1.cell 4
  have q1_5 : u3.cell? ⟨w.heap.size + 1, 5, none⟩ = some (.int .i64 role') := z1.cell 5
  have q1_6 : u3.cell? ⟨w.heap.size + 1, 6, none⟩ = some (.bool change') := z1.cell 6
  go_wp2_with fail
  refine (HC _).mono ?_
  rintro e u4 ⟨rfl, bb⟩
  clear q0_0 q0_1 q0_2 q0_3 q0_4 q0_5 q0_6 q1_0 q1_1 q1_2 q1_3 q1_4 q1_5 q1_6
  replace z0 := z0.below bb z0.lt
  replace z1 := z1.below bb z1.lt
  replace bel := bel.trans (bb.mono bel.size)
  clear bb
  have q0_0 : u4.cell? ⟨w.heap.size, 0, none⟩ = some (.int .i64 root) := z0.cell 0
  have q0_1 : u4.cell? ⟨w.heap.size, 1, none⟩ = some (.int .i64 cost) := z0.cell 1
  have q0_2 : u4.cell? ⟨w.heap.size, 2, none⟩ = some (.int .i64 bridge) := z0.cell 2
  have q0_3 : u4.cell? ⟨w.heap.size, 3, none⟩ = some (.int .i64 port) := z0.cell 3
  have q0_4 : u4.cell? ⟨w.heap.size, 4, none⟩ = some (.int .i64 age) := z0.cell 4
  have q0_5 : u4.cell? ⟨w.heap.size, 5, none⟩ = some (.int .i64 role) := z0.cell 5
  have q0_6 : u4.cell? ⟨w.heap.size, 6, none⟩ = some (.bool change) := z0.cell 6
  have q1_0 : u4.cell? ⟨w.heap.size + 1, 0, none⟩ = some (.int .i64 root') := z1.cell 0
  have q1_1 : u4.cell? ⟨w.heap.size + 1, 1, none⟩ = some (.int .i64 cost') := z1.cell 1
  have q1_2 : u4.cell? ⟨w.heap.size + 1, 2, none⟩ = some (.int .i64 bridge') := z1.cell 2
  have q1_3 : u4.cell? ⟨w.heap.size + 1, 3, none⟩ = some (.int .i64 port') := z1.cell 3
  have q1_4 : u4.cell? ⟨w.heap.size + 1, 4, none⟩ = some (.int .i64 age') := z1.cell 4
  have q1_5 : u4.cell? ⟨w.heap.size + 1, 5, none⟩ = some (.int .i64 role') := z1.cell 5
  have q1_6 : u4.cell? ⟨w.heap.size + 1, 6, none⟩ = some (.bool change') := z1.cell 6
  go_wp2_with fail
  all_goals first
    | (go_ret; exact ⟨rfl, bel⟩)
    | (exfalso; rename_i a1 a2 a3 a4 a5 a6 a7; exact HAB.out.absurd a1 a2 a3 a4 a5 a6 (by revert a7; cases change <;> cases change' <;> simp))
set_option maxRecDepth 100000 in
theorem liftedBpduOne (os : Os) (started : os.Started) (H : Type) (enc : TypeId × Value → H) :
    ReturnsInHanded {} Try.checked os 7 .any (Rows.bpduOneSpec.pre6 enc Try.prog Try.f7 Rows.bpduOneRow.domain false) (Rows.bpduOneSpec.post enc Try.prog Try.f7 false true false false) := by
  refine returnsInHanded_of_change (C := Try.checked) own started (by kernel_rfl) Try.func7
    (ChangeSpec.witness6 (enc := enc) (C := Try.checked) false ⟨#[], #[.agg #[.int .i64 0, .int .i64 0, .int .i64 0, .int .i64 0, .int .i64 0, .int .i64 0, .bool false], .agg #[.int .i64 0, .int .i64 0, .int .i64 0, .int .i64 0, .int .i64 0, .int .i64 0, .bool false]], []⟩ 8 (by kernel_rfl) (by kernel_rfl) (by kernel_rfl) (by kernel_rfl)) ?_
  intro W base args ds gs before hval0 hW hcnd _
  have hval : ∀ (j : Nat) t v, Try.f7.params[j]? = some t → args[j]? = some v → Value.okWide Try.prog W .any base t v := hval0
  have hW' := hW
  obtain ⟨p, q, hA0, hV, rfl, hfz, hnd⟩ := hW
  have hA : DataW.TrodAll enc Try.prog W 0 (fun _ => true) true Try.f7.params.toList args.toList ds p := hA0
  rw [Try.params7] at hA hval
  obtain ⟨v0, vs0, d0, ds0, p0, q0, hargs, rfl, rfl, h0, r0⟩ := trodAll_cons hA
  obtain ⟨v1, vs1, d1, ds1, p1, q1, rfl, rfl, rfl, h1, r1⟩ := trodAll_cons r0
  obtain ⟨rfl, rfl, rfl⟩ := trodAll_nil r1
  obtain rfl : args = #[v0, v1] := by cases args; simp_all
  obtain ⟨rfl, rfl⟩ := trodVars_none hV
  have k0 := h0
  have lt0 : ∀ x ∈ p0, x.block < W.heap.size := by obtain ⟨m, hm⟩ := k0; exact DataW.trod_lt m _ _ _ hm
  obtain ⟨b0, rfl, w0⟩ := open_bp (hval 0 25 v0 rfl rfl) h0
  have k1 := h1
  have lt1 : ∀ x ∈ p1, x.block < W.heap.size := by obtain ⟨m, hm⟩ := k1; exact DataW.trod_lt m _ _ _ hm
  obtain ⟨b1, rfl, w1⟩ := open_bp (hval 1 25 v1 rfl rfl) h1
  clear hA0 hval0
  refine (walkBpduOne b0 b1 W w0 w1).mono fun e W' ⟨he, bel⟩ => ?_
  subst he
  exact ⟨_, rfl, _, _, _, [], _, [], hW', trodAll_mk1 (shut_bool Try.underlying4 _), (trodAll_cons_mk (Below.trod laidOut (by kernel_rfl) (of_decide_eq_true (by kernel_rfl)) k0 bel lt0) (trodAll_cons_mk (Below.trod laidOut (by kernel_rfl) (of_decide_eq_true (by kernel_rfl)) k1 bel lt1) trodAll_mk0)), rfl, bel.frame _, fun h => by cases h⟩

theorem overBpduOne : Rows.bpduOneRow.holds Try.pinned (OpenSpec.ofChange Rows.bpduOneSpec) :=
  OpenClaim.holds_of_wide 7 Try.f7 rfl rfl rfl rfl rfl rfl rfl ⟨rfl, rfl, rfl, rfl, rfl⟩ rfl rfl rfl rfl rfl (by kernel_rfl) Try.func7 (by kernel_rfl)
    (of_decide_eq_true (by kernel_rfl)) (by unfold Func.isWrapper; first | (rw [if_pos (by decide +kernel)]; kernel_rfl) | (rw [if_neg (by decide +kernel)]; exact ⟨rfl, rfl⟩))
    (fun os started H enc _ => liftedBpduOne os started H enc)

/-- The statement. -/
theorem bpduOne_holds : Rows.BpduOneSaid := overBpduOne

#print axioms bpduOne_holds
end Go.Proofs.Ytkghaemnjfiliaa
