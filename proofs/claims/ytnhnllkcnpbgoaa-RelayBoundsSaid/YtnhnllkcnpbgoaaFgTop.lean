/- Learn and Fix of the program's table (layer 18). Its condition: at most 2^20 places, in order. -/
import Derived.Test.YtnhnllkcnpbgoaaFgPut
namespace Go.Proofs.Ytnhnllkcnpbgoaa
open Go.RowKit
set_option maxRecDepth 100000

set_option maxHeartbeats 1000000 in
theorem flearn_any {w : World} {B g : Nat} {F : Nat → Prop} {s : Dt} (v m p now : Int) (hp : Pt w B F g s) (hs : Srt s.l) (hn : s.l.length ≤ 1000000) : Calls Try.prog 17 #[.pointer (some ⟨g, 0, none⟩), .int .i64 v, .int .i64 m, .int .i64 p, .int .i64 now] w fun e w' => e = .returned (.int .i64 (learnS s v m p now).2) ∧ Touch F w w' ∧ Pt w' B (grow F w w') g (learnS s v m p now).1 := by
  rw [learn_put]
  have HP := Lib.hid (put_any ⟨v, m, p, now, false⟩ hp hs hn)
  obtain ⟨r, hr⟩ : ∃ r, putG s ⟨v, m, p, now, false⟩ = r := ⟨_, rfl⟩
  rw [hr] at HP ⊢
  clear hp hs hn hr
  go_enter Try.func17, Try.ntmps17
  go_wp2_with fail
  refine HP.out.mono ?_
  rintro e w2 ⟨rfl, ht⟩
  have HT := Lib.hid ht
  clear ht
  go_wp2_with fail
  go_ret
  exact ⟨rfl, HT.out⟩
set_option maxHeartbeats 1000000 in
theorem ffix_any {w : World} {B g : Nat} {F : Nat → Prop} {s : Dt} (v m p : Int) (hp : Pt w B F g s) (hs : Srt s.l) (hn : s.l.length ≤ 1000000) : Calls Try.prog 16 #[.pointer (some ⟨g, 0, none⟩), .int .i64 v, .int .i64 m, .int .i64 p] w fun e w' => e = .returned (.int .i64 (fixS s v m p).2) ∧ Touch F w w' ∧ Pt w' B (grow F w w') g (fixS s v m p).1 := by
  rw [fix_put]
  have HP := Lib.hid (put_any ⟨v, m, p, 0, true⟩ hp hs hn)
  obtain ⟨r, hr⟩ : ∃ r, putG s ⟨v, m, p, 0, true⟩ = r := ⟨_, rfl⟩
  rw [hr] at HP ⊢
  clear hp hs hn hr
  go_enter Try.func16, Try.ntmps16
  go_wp2_with fail
  refine HP.out.mono ?_
  rintro e w2 ⟨rfl, ht⟩
  have HT := Lib.hid ht
  clear ht
  go_wp2_with fail
  go_ret
  exact ⟨rfl, HT.out⟩
theorem put_nil (w : World) (x : Pl) : Calls Try.prog 27 #[.pointer none, .agg #[.int .i64 x.v, .int .i64 x.m, .int .i64 x.p, .int .i64 x.s, .bool x.st]] w fun e w' => e = .returned (.int .i64 2) ∧ Below w.heap.size w w' := by
  have HB := Lib.hid (bel_alloc w (.cells #[.int .i64 x.v, .int .i64 x.m, .int .i64 x.p, .int .i64 x.s, .bool x.st] 49))
  go_enter Try.func27, Try.ntmps27
  go_wp2_with fail
  go_ret
  exact ⟨rfl, HB.out⟩
theorem flearn_nil (w : World) (v m p now : Int) : Calls Try.prog 17 #[.pointer none, .int .i64 v, .int .i64 m, .int .i64 p, .int .i64 now] w fun e w' => e = .returned (.int .i64 2) ∧ Below w.heap.size w w' := by
  have HP := Lib.hid (put_nil w ⟨v, m, p, now, false⟩)
  go_enter Try.func17, Try.ntmps17
  go_wp2_with fail
  refine HP.out.mono ?_
  rintro e w2 ⟨rfl, ht⟩
  go_wp2_with fail
  go_ret
  exact ⟨rfl, ht⟩
theorem ffix_nil (w : World) (v m p : Int) : Calls Try.prog 16 #[.pointer none, .int .i64 v, .int .i64 m, .int .i64 p] w fun e w' => e = .returned (.int .i64 2) ∧ Below w.heap.size w w' := by
  have HP := Lib.hid (put_nil w ⟨v, m, p, 0, true⟩)
  go_enter Try.func16, Try.ntmps16
  go_wp2_with fail
  refine HP.out.mono ?_
  rintro e w2 ⟨rfl, ht⟩
  go_wp2_with fail
  go_ret
  exact ⟨rfl, ht⟩
end Go.Proofs.Ytnhnllkcnpbgoaa
