/- What the statements of stage 15 ask first. No condition. -/
import Derived.Test.YtnifdbhihbjeaaaApAsk
namespace Go.Proofs.Ytnifdbhihbjeaaa
open Go.RowKit
set_option maxRecDepth 100000

theorem below_app {w0 w w' : World} {g : Nat} (hb : Below w0.heap.size w0 w) (ht : Touch (fun k => k = g) w w') (hg : w0.heap.size ≤ g) : Below w0.heap.size w0 w' :=
  ⟨ht.os.trans hb.os, ht.tape.trans hb.tape, ht.output.trans hb.output, Nat.le_trans hb.size ht.size, fun k hk => (ht.block k (Nat.lt_of_lt_of_le hk hb.size) (by omega)).trans (hb.block k hk)⟩
theorem s5_lit {s : Int} (h : 0 ≤ s) (h' : s ≤ 4) : S5 s := by unfold S5; omega
/-- An applicant of one's own, behind all that was. -/
structure OwnA (w0 w : World) (g : Nat) (r : Ap) : Prop where
  at_ : ApAt w g r
  low : w0.heap.size ≤ g
  bel : Below w0.heap.size w0 w
  ok : S5 r.state
theorem OwnA.new {w0 w : World} (hb : Below w0.heap.size w0 w) : OwnA w0 (w.alloc (.cells (Ap.arr ⟨0, 0⟩) 26)) w.heap.size ⟨0, 0⟩ := ⟨Blk.new _ _ _, hb.size, hb.alloc hb.size _, .inl rfl⟩
theorem OwnA.go {w0 w w' : World} {g : Nat} {r r' : Ap} (h : OwnA w0 w g r) (h1 : ApAt w' g r') (t : Touch (fun k => k = g) w w') (hs : S5 r'.state) : OwnA w0 w' g r' := ⟨h1, h.low, below_app h.bel t h.low, hs⟩
theorem OwnA.alloc {w0 w : World} {g : Nat} {r : Ap} (h : OwnA w0 w g r) (o : Obj) : OwnA w0 (w.alloc o) g r := ⟨Blk.alloc h.at_ o, h.low, h.bel.alloc h.bel.size o, h.ok⟩
theorem OwnA.drewN {w0 w : World} {g : Nat} {r : Ap} (h : OwnA w0 w g r) (q : Nat) : OwnA w0 (w.drewN q) g r := ⟨Blk.drewN h.at_ q, h.low, bel_drewN h.bel q, h.ok⟩
theorem own_want {w0 w : World} {g : Nat} {r : Ap} (h : OwnA w0 w g r) (b : Int) (n : Bool) : Calls Try.prog 8 #[.pointer (some ⟨g, 0, none⟩), .int .i64 b, .bool n] w fun x w' => x = .returned (.tuple #[]) ∧ OwnA w0 w' g (wantA r b n) ∧ Touch (fun k => k = g) w w' :=
  (awant_any h.at_ h.ok b n).mono fun _ _ ⟨e, h1, t1⟩ => ⟨e, h.go h1 t1 (wantA_ok h.ok b n), t1⟩
theorem own_all {w0 w : World} {g : Nat} {r : Ap} (h : OwnA w0 w g r) : Calls Try.prog 10 #[.pointer (some ⟨g, 0, none⟩)] w fun x w' => x = .returned (.tuple #[]) ∧ OwnA w0 w' g (stepA r 2) ∧ Touch (fun k => k = g) w w' :=
  (aall_any h.at_ h.ok).mono fun _ _ ⟨e, h1, t1⟩ => ⟨e, h.go h1 t1 (stepA_ok h.ok (by unfold E6; omega)), t1⟩
theorem own_again {w0 w : World} {g : Nat} {r : Ap} (h : OwnA w0 w g r) : Calls Try.prog 12 #[.pointer (some ⟨g, 0, none⟩)] w fun x w' => x = .returned (.tuple #[]) ∧ OwnA w0 w' g (stepA r 3) ∧ Touch (fun k => k = g) w w' :=
  (aagain_any h.at_ h.ok).mono fun _ _ ⟨e, h1, t1⟩ => ⟨e, h.go h1 t1 (stepA_ok h.ok (by unfold E6; omega)), t1⟩
theorem own_say {w0 w : World} {g : Nat} {r : Ap} (h : OwnA w0 w g r) : Calls Try.prog 13 #[.pointer (some ⟨g, 0, none⟩)] w fun x w' => x = .returned (.tuple #[.int .i64 (sayE (actA r 4)), .int .i64 (sayB (actA r 4) r.born), .bool (decide (actA r 4 ≠ 0))]) ∧ OwnA w0 w' g (stepA r 4) ∧ Touch (fun k => k = g) w w' :=
  (asay_any h.at_ h.ok).mono fun _ _ ⟨e, h1, t1⟩ => ⟨e, h.go h1 t1 (stepA_ok h.ok (by unfold E6; omega)), t1⟩
set_option maxHeartbeats 2000000 in
theorem aalive_any (w : World) : Calls Try.prog 7 #[] w fun e w' => e = .returned (.bool true) ∧ Below w.heap.size w w' := by
  have H0 := Lib.hid (OwnA.new (Below.refl w.heap.size w))
  go_enter Try.func7, Try.ntmps7
  go_wp2_with fail
  refine (own_want H0.out 5 false).mono ?_
  rintro e w1 ⟨rfl, h1, _⟩
  rw [show wantA ⟨0, 0⟩ 5 false = ⟨1, 5⟩ from rfl] at h1
  have H1 := Lib.hid h1
  clear h1
  go_wp2_with fail
  refine (own_say H1.out).mono ?_
  rintro e w2 ⟨rfl, h2, _⟩
  rw [show stepA ⟨1, 5⟩ 4 = ⟨2, 5⟩ from rfl] at h2
  rw [show sayE (actA ⟨1, 5⟩ 4) = 0 from rfl, show sayB (actA ⟨1, 5⟩ 4) (Ap.born ⟨1, 5⟩) = 5 from rfl, show decide (actA ⟨1, 5⟩ 4 ≠ 0) = true from rfl]
  have H2 := Lib.hid h2
  clear h2
  go_wp2_with fail
  refine (own_say H2.out).mono ?_
  rintro e w3 ⟨rfl, h3, _⟩
  rw [show stepA ⟨2, 5⟩ 4 = ⟨3, 5⟩ from rfl] at h3
  rw [show sayE (actA ⟨2, 5⟩ 4) = 1 from rfl, show sayB (actA ⟨2, 5⟩ 4) (Ap.born ⟨2, 5⟩) = 5 from rfl, show decide (actA ⟨2, 5⟩ 4 ≠ 0) = true from rfl]
  have H3 := Lib.hid h3
  clear h3
  go_wp2_with fail
  refine (own_say H3.out).mono ?_
  rintro e w4 ⟨rfl, h4, _⟩
  rw [show sayE (actA ⟨3, 5⟩ 4) = 0 from rfl, show sayB (actA ⟨3, 5⟩ 4) (Ap.born ⟨3, 5⟩) = 0 from rfl, show decide (actA ⟨3, 5⟩ 4 ≠ 0) = false from rfl]
  have H4 := Lib.hid h4.bel
  clear h4
  go_wp2_with fail
  go_ret
  exact ⟨rfl, H4.out⟩
end Go.Proofs.Ytnifdbhihbjeaaa
