/- bpdu's flags and putName. Its condition: the writer stands in its place, and there is room. -/
import Derived.Test.YtkghaemnjfiliaaBpGood
namespace Go.Proofs.Ytkghaemnjfiliaa
open Go.RowKit

theorem flags_any (b : Bp) (h : b.good = true) (w : World) :
    Calls Try.prog 20 #[b.v] w fun e w' => e = .returned (.int .i64 b.flags) ∧ Below w.heap.size w w' := by
  simp only [Bp.good, roleB, Bool.and_eq_true, decide_eq_true_eq] at h
  obtain ⟨_, h0, h1⟩ := h
  obtain ⟨root, cost, bridge, port, age, role, change⟩ := b
  simp only at h0 h1
  have hv : Bp.v ⟨root, cost, bridge, port, age, role, change⟩ = .agg #[.int .i64 root, .int .i64 cost, .int .i64 bridge, .int .i64 port, .int .i64 age, .int .i64 role, .bool change] := rfl
  have hb0 := bel_alloc w (.cells #[.int .i64 root, .int .i64 cost, .int .i64 bridge, .int .i64 port, .int .i64 age, .int .i64 role, .bool change] 25)
  rw [hv]
  clear hv
  cases change
  · go_enter Try.func20, Try.ntmps20
    go_wp2
    go_ret
    exact ⟨ret_i64 (by simp [Bp.flags]), hb0⟩
  · go_enter Try.func20, Try.ntmps20
    go_wp2
    go_ret
    exact ⟨ret_i64 (by simp [Bp.flags]), hb0⟩

theorem near_lit1 : (near 1 8).toNat = 1 := by decide
theorem near_lit2 : (near 2 8).toNat = 2 := by decide
theorem near_lit4 : (near 4 8).toNat = 4 := by decide
theorem near_lit6 : (near 6 8).toNat = 6 := by decide
theorem FootW.step {w w1 w2 : World} {g : Nat} {v v1 : Value} (ht : Touch (FootW g v) w w1) (hm : Moved w v v1) (hT : Touch (FootW g v1) w1 w2) : Touch (FootW g v) w w2 :=
  ⟨hT.os.trans ht.os, hT.tape.trans ht.tape, hT.output.trans ht.output, Nat.le_trans ht.size hT.size, fun k hk hp => (hT.block k (Nat.lt_of_lt_of_le hk ht.size) (fun e => hp (FootW.moved hm hk e))).trans (ht.block k hk hp)⟩

set_option maxHeartbeats 1000000 in
theorem putName_any (g : Nat) (v : Value) (l : List UInt8) (a : Int) (ha : nameB a = true) (w : World) (h : IsW w g v l) (hl : l.length ≤ 100000000) :
    Calls Try.prog 21 #[.pointer (some ⟨g, 0, none⟩), .int .i64 a] w fun e w' => e = .returned (.tuple #[]) ∧ ∃ v', IsW w' g v' (l ++ nameL a) ∧ Touch (FootW g v) w w' ∧ Moved w v v' := by
  have hL := Lib.hid (show l ++ nameL a = l ++ be (a / 281474976710656 * 4096) 2 ++ be (a % 281474976710656) 6 by rw [nameL, List.append_assoc])
  simp only [nameB, decide_eq_true_eq] at ha
  obtain ⟨a0, a1, _⟩ := ha
  obtain ⟨q, hq⟩ : ∃ q, a / 281474976710656 = q := ⟨_, rfl⟩
  have hm := macOf_pos (a := a) (by omega) (by omega)
  obtain ⟨m, hmm⟩ : ∃ m, a % 281474976710656 = m := ⟨_, rfl⟩
  have q0 : 0 ≤ q := by omega
  have q1 : q ≤ 15 := by omega
  rw [hq, hmm] at hL
  rw [hmm] at hm
  have HQ := Lib.hid hq
  have HM := Lib.hid hm
  clear hq hm hmm a0 a1
  go_enter Try.func21, Try.ntmps21
  go_wp2_with (go_at_call 29; refine (split_any _ _).mono ?_; rw [HQ.out, HM.out]; rintro e w' ⟨rfl, rfl⟩)
  refine (put_any g _ _ _ _ _ h (by omega)).mono ?_
  rw [near_lit2]
  rintro e w1 ⟨rfl, v1, i1, t1, m1⟩
  go_wp2_with fail
  refine (put_any g _ _ _ _ _ i1 (by simp [be_length]; omega)).mono ?_
  rw [near_lit6]
  rintro e w2 ⟨rfl, v2, i2, t2, m2⟩
  go_wp2
  go_end0
  rw [hL.out]
  exact ⟨rfl, v2, i2, FootW.step t1 m1 t2, m1.trans m2 t1.size⟩
end Go.Proofs.Ytkghaemnjfiliaa
