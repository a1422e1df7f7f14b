/- bpdu.getName and bpdu.parse: the message that a text may be. Its condition: a text of at most 2^20 bytes. -/
import Derived.Test.YtkghaemnjfiliaaBpGood
namespace Go.Proofs.Ytkghaemnjfiliaa
open Go.RowKit

theorem bp_info : (Try.prog.info? 25).map (·.size) = some 7 := by kernel_rfl
theorem near7_1 : near 1 7 = 1 := by decide
theorem near7_2 : near 2 7 = 2 := by decide
theorem near7_4 : near 4 7 = 4 := by decide
theorem near7_6 : near 6 7 = 6 := by decide
set_option maxHeartbeats 1000000 in
theorem getName_any (g : Nat) (r : RdS) (w : World) (h : IsR w g r) (hr : r.ok) :
    Calls Try.prog 34 #[.pointer (some ⟨g, 0, none⟩)] w fun e w' => e = .returned (.int .i64 (idOf (r.get 2 / 4096) ((r.take 2).get 6))) ∧ IsR w' g ((r.take 2).take 6) ∧ Touch (· = g) w w' := by
  have hn := get_lt r 2 2 rfl
  have hr2 := RdS.take_ok hr 2
  obtain ⟨n, hnn⟩ : ∃ n, r.get 2 = n := ⟨_, rfl⟩
  obtain ⟨r2, hrr⟩ : ∃ r2, r.take 2 = r2 := ⟨_, rfl⟩
  have hm := get_lt r2 6 6 rfl
  obtain ⟨m, hmm⟩ : ∃ n, r2.get 6 = n := ⟨_, rfl⟩
  rw [hnn] at hn
  rw [hrr] at hr2
  rw [hmm] at hm
  rw [hnn, hrr, hmm]
  have HN := Lib.hid hnn
  have HR := Lib.hid hrr
  have HM := Lib.hid hmm
  have n0 : 0 ≤ n := hn.1
  have n1 : n < 65536 := hn.2
  clear hn hm hnn hrr hmm
  go_enter Try.func34, Try.ntmps34
  go_wp2_with fail
  refine (get_near g r 2 near7_2 _ h hr).mono ?_
  rw [HN.out, HR.out]
  rintro e w1 ⟨rfl, q1, t1⟩
  go_wp2_with fail
  refine (get_near g r2 6 near7_6 _ q1 hr2).mono ?_
  rw [HM.out]
  rintro e w2 ⟨rfl, q2, t2⟩
  go_wp2_with fail
  refine (id_any _ _ _).mono ?_
  rintro e w' ⟨rfl, rfl⟩
  go_wp2_with fail
  go_ret
  exact ⟨rfl, q2, t1.trans t2⟩

/-- In the midst of the reading: the result's place, the message's, the reader's. -/
structure QAt (w wk : World) (b : Bp) (r : RdS) : Prop where
  res : Blk wk w.heap.size 25 Bp.zero.cells
  var : Blk wk (w.heap.size + 1) 25 b.cells
  rd : IsR wk (w.heap.size + 2) r
  bel : Below w.heap.size w wk
theorem QAt.start {w w1 : World} {r : RdS} (hr : IsR w1 ((w.alloc (.cells Bp.zero.cells 25)).alloc (.cells Bp.zero.cells 25)).heap.size r) (hb : Below ((w.alloc (.cells Bp.zero.cells 25)).alloc (.cells Bp.zero.cells 25)).heap.size ((w.alloc (.cells Bp.zero.cells 25)).alloc (.cells Bp.zero.cells 25)) w1) : QAt w w1 Bp.zero r := by
  have e : ((w.alloc (.cells Bp.zero.cells 25)).alloc (.cells Bp.zero.cells 25)).heap.size = w.heap.size + 2 := by simp
  rw [e] at hr hb
  have e : (w.alloc (.cells Bp.zero.cells 25)).heap.size = w.heap.size + 1 := by simp
  have h1 := Blk.new (w.alloc (.cells Bp.zero.cells 25)) 25 Bp.zero.cells
  rw [e] at h1
  exact ⟨((Blk.new w _ _).alloc _).below hb (by omega), h1.below hb (by omega), hr, (bel_alloc2 _ _ _).trans (hb.mono (by omega))⟩
theorem QAt.get {w wk w' : World} {f : Bp} {r r' : RdS} (h : QAt w wk f r) (hr : IsR w' (w.heap.size + 2) r') (ht : Touch (· = w.heap.size + 2) wk w') : QAt w w' f r' :=
  ⟨h.res.touch ht (by omega), h.var.touch ht (by omega), hr, h.bel.trans (ht.below h.bel.size (by rintro k rfl; omega))⟩
theorem QAt.set_ {w wk : World} {f f' : Bp} {r : RdS} (h : QAt w wk f r) (i : Nat) (u : Value) (hf : f.cells.setIfInBounds i u = f'.cells) : QAt w (wk.setCell ⟨w.heap.size + 1, i, none⟩ u) f' r := by
  refine ⟨h.res.far (by simp) u, ?_, Blk.far h.rd (by simp) u, h.bel.setCell (by simp) u⟩
  rw [← hf]
  exact h.var.set_ i u
theorem QAt.cell {w wk : World} {f : Bp} {r : RdS} (h : QAt w wk f r) (i : Nat) : wk.cell? ⟨w.heap.size + 1, i, none⟩ = f.cells[i]? := h.var.cell i
theorem QAt.fz {w wk : World} {f : Bp} {r : RdS} (h : QAt w wk f r) (i : Nat) : wk.frozen? ⟨w.heap.size + 1, i, none⟩ = false := h.var.frozen i

set_option maxHeartbeats 4000000 in
theorem bparse_any (s : ByteArray) (w : World) (hs : s.size ≤ 1048576) :
    Calls Try.prog 24 #[.string s] w fun e w' => e = .returned ((Bp.parse s).v) ∧ Below w.heap.size w w' := by
  obtain ⟨rz, hrz⟩ : ∃ r : RdS, Hid (⟨s, 0, false⟩ = r) := ⟨_, Lib.hid rfl⟩
  have oz : rz.ok := by rw [← hrz.out]; exact ⟨Nat.zero_le _, by show s.size ≤ _; omega⟩
  obtain ⟨r0, hr0⟩ : ∃ r : RdS, Hid (rz.take 4 = r) := ⟨_, Lib.hid rfl⟩
  have o0 : r0.ok := by rw [← hr0.out]; exact RdS.take_ok oz 4
  obtain ⟨r1, hr1⟩ : ∃ r : RdS, Hid (r0.take 1 = r) := ⟨_, Lib.hid rfl⟩
  have o1 : r1.ok := by rw [← hr1.out]; exact RdS.take_ok o0 1
  obtain ⟨r2, hr2⟩ : ∃ r : RdS, Hid (r1.take 2 = r) := ⟨_, Lib.hid rfl⟩
  have o2 : r2.ok := by rw [← hr2.out]; exact RdS.take_ok o1 2
  obtain ⟨r3, hr3⟩ : ∃ r : RdS, Hid (r2.take 6 = r) := ⟨_, Lib.hid rfl⟩
  have o3 : r3.ok := by rw [← hr3.out]; exact RdS.take_ok o2 6
  obtain ⟨r4, hr4⟩ : ∃ r : RdS, Hid (r3.take 4 = r) := ⟨_, Lib.hid rfl⟩
  have o4 : r4.ok := by rw [← hr4.out]; exact RdS.take_ok o3 4
  obtain ⟨r5, hr5⟩ : ∃ r : RdS, Hid (r4.take 2 = r) := ⟨_, Lib.hid rfl⟩
  have o5 : r5.ok := by rw [← hr5.out]; exact RdS.take_ok o4 2
  obtain ⟨r6, hr6⟩ : ∃ r : RdS, Hid (r5.take 6 = r) := ⟨_, Lib.hid rfl⟩
  have o6 : r6.ok := by rw [← hr6.out]; exact RdS.take_ok o5 6
  obtain ⟨r7, hr7⟩ : ∃ r : RdS, Hid (r6.take 2 = r) := ⟨_, Lib.hid rfl⟩
  have o7 : r7.ok := by rw [← hr7.out]; exact RdS.take_ok o6 2
  obtain ⟨r8, hr8⟩ : ∃ r : RdS, Hid (r7.take 2 = r) := ⟨_, Lib.hid rfl⟩
  have o8 : r8.ok := by rw [← hr8.out]; exact RdS.take_ok o7 2
  have lf := get_lt r0 1 1 rfl
  obtain ⟨f, hf⟩ : ∃ n, r0.get 1 = n := ⟨_, rfl⟩
  rw [hf] at lf
  have lra := get_lt r1 2 2 rfl
  obtain ⟨ra, hra⟩ : ∃ n, r1.get 2 = n := ⟨_, rfl⟩
  rw [hra] at lra
  have lma := get_lt r2 6 6 rfl
  obtain ⟨ma, hma⟩ : ∃ n, r2.get 6 = n := ⟨_, rfl⟩
  rw [hma] at lma
  have lc := get_lt r3 4 4 rfl
  obtain ⟨c, hc⟩ : ∃ n, r3.get 4 = n := ⟨_, rfl⟩
  rw [hc] at lc
  have lrb := get_lt r4 2 2 rfl
  obtain ⟨rb, hrb⟩ : ∃ n, r4.get 2 = n := ⟨_, rfl⟩
  rw [hrb] at lrb
  have lmb := get_lt r5 6 6 rfl
  obtain ⟨mb, hmb⟩ : ∃ n, r5.get 6 = n := ⟨_, rfl⟩
  rw [hmb] at lmb
  have lp := get_lt r6 2 2 rfl
  obtain ⟨p, hp⟩ : ∃ n, r6.get 2 = n := ⟨_, rfl⟩
  rw [hp] at lp
  have la := get_lt r7 2 2 rfl
  obtain ⟨a, ha⟩ : ∃ n, r7.get 2 = n := ⟨_, rfl⟩
  rw [ha] at la
  have HP := Lib.hid (show Bp.parse s = ⟨idOf (ra / 4096) ma, c, idOf (rb / 4096) mb, p - 1, a / 256, f / 4, f % 4 == 1⟩ by
    rw [← hf, ← hra, ← hma, ← hc, ← hrb, ← hmb, ← hp, ← ha, ← hr7.out, ← hr6.out, ← hr5.out, ← hr4.out, ← hr3.out, ← hr2.out, ← hr1.out, ← hr0.out, ← hrz.out]; rfl)
  obtain ⟨ia, hia⟩ : ∃ i, Hid (idOf (ra / 4096) ma = i) := ⟨_, Lib.hid rfl⟩
  obtain ⟨ib, hib⟩ : ∃ i, Hid (idOf (rb / 4096) mb = i) := ⟨_, Lib.hid rfl⟩
  rw [hia.out, hib.out] at HP
  have Hf := Lib.hid hf
  have Hra := Lib.hid hra
  have Hma := Lib.hid hma
  have Hc := Lib.hid hc
  have Hrb := Lib.hid hrb
  have Hmb := Lib.hid hmb
  have Hp := Lib.hid hp
  have Ha := Lib.hid ha
  have f0 : 0 ≤ f := lf.1
  have f1 : f < 256 := lf.2
  have p0 : 0 ≤ p := lp.1
  have p1 : p < 65536 := lp.2
  have a0 : 0 ≤ a := la.1
  have a1 : a < 65536 := la.2
  clear lf lra lma lc lrb lmb lp la hf hra hma hc hrb hmb hp ha
  obtain ⟨ch, hch⟩ : ∃ b, (f % 4 == 1) = b := ⟨_, rfl⟩
  rw [hch] at HP
  go_enter Try.func24, Try.ntmps24
  go_wp2_with fail
  refine (open_any s _).mono ?_
  rw [hrz.out]
  rintro e w1 ⟨rfl, q1, b1⟩
  have h1 : QAt w w1 Bp.zero rz := QAt.start q1 b1
  clear q1 b1
  go_wp2_with fail
  refine (raw_any _ _ 4 _ h1.rd oz (by decide)).mono ?_
  rw [hr0.out]
  rintro e w2 ⟨rfl, q2, t2⟩
  have h2 := h1.get q2 t2
  clear q2 t2 h1
  go_wp2_with fail
  refine (get_near _ _ 1 near7_1 _ h2.rd o0).mono ?_
  rw [Hf.out, hr1.out]
  rintro e w3 ⟨rfl, q3, t3⟩
  have h3 := h2.get q3 t3
  clear q3 t3 h2
  have c5 : w3.cell? ⟨w.heap.size + 1, 5, none⟩ = some (.int .i64 0) := h3.cell 5
  have c6 : w3.cell? ⟨w.heap.size + 1, 6, none⟩ = some (.bool false) := h3.cell 6
  have z5 := h3.fz 5
  have z6 := h3.fz 6
  have h4 : QAt w ((w3.setCell ⟨w.heap.size + 1, 5, none⟩ (.int .i64 (f / 4))).setCell ⟨w.heap.size + 1, 6, none⟩ (.bool ch)) ⟨0, 0, 0, 0, 0, f / 4, ch⟩ r1 := (h3.set_ (f' := ⟨0, 0, 0, 0, 0, f / 4, false⟩) 5 (.int .i64 (f / 4)) rfl).set_ 6 (.bool ch) rfl
  clear h3
  go_wp2_with fail
  refine (getName_any _ _ _ h4.rd o1).mono ?_
  rw [Hra.out, hr2.out, Hma.out, hr3.out, hia.out]
  rintro e w4 ⟨rfl, q4, t4⟩
  have g4 := h4.get q4 t4
  clear q4 t4 h4 c5 c6 z5 z6
  have cc : w4.cell? ⟨w.heap.size + 1, 0, none⟩ = some (.int .i64 0) := g4.cell 0
  have zz := g4.fz 0
  have h5 : QAt w (w4.setCell ⟨w.heap.size + 1, 0, none⟩ (.int .i64 ia)) ⟨ia, 0, 0, 0, 0, f / 4, ch⟩ r3 := g4.set_ 0 (.int .i64 ia) rfl
  clear g4
  go_wp2_with fail
  refine (get_near _ _ 4 near7_4 _ h5.rd o3).mono ?_
  rw [Hc.out, hr4.out]
  rintro e w5 ⟨rfl, q5, t5⟩
  have g5 := h5.get q5 t5
  clear q5 t5 h5 cc zz
  have cc : w5.cell? ⟨w.heap.size + 1, 1, none⟩ = some (.int .i64 0) := g5.cell 1
  have zz := g5.fz 1
  have h6 : QAt w (w5.setCell ⟨w.heap.size + 1, 1, none⟩ (.int .i64 c)) ⟨ia, c, 0, 0, 0, f / 4, ch⟩ r4 := g5.set_ 1 (.int .i64 c) rfl
  clear g5
  go_wp2_with fail
  refine (getName_any _ _ _ h6.rd o4).mono ?_
  rw [Hrb.out, hr5.out, Hmb.out, hr6.out, hib.out]
  rintro e w6 ⟨rfl, q6, t6⟩
  have g6 := h6.get q6 t6
  clear q6 t6 h6 cc zz
  have cc : w6.cell? ⟨w.heap.size + 1, 2, none⟩ = some (.int .i64 0) := g6.cell 2
  have zz := g6.fz 2
  have h7 : QAt w (w6.setCell ⟨w.heap.size + 1, 2, none⟩ (.int .i64 ib)) ⟨ia, c, ib, 0, 0, f / 4, ch⟩ r6 := g6.set_ 2 (.int .i64 ib) rfl
  clear g6
  go_wp2_with fail
  refine (get_near _ _ 2 near7_2 _ h7.rd o6).mono ?_
  rw [Hp.out, hr7.out]
  rintro e w7 ⟨rfl, q7, t7⟩
  have g7 := h7.get q7 t7
  clear q7 t7 h7 cc zz
  have cc : w7.cell? ⟨w.heap.size + 1, 3, none⟩ = some (.int .i64 0) := g7.cell 3
  have zz := g7.fz 3
  have h8 : QAt w (w7.setCell ⟨w.heap.size + 1, 3, none⟩ (.int .i64 (p - 1))) ⟨ia, c, ib, p - 1, 0, f / 4, ch⟩ r7 := g7.set_ 3 (.int .i64 (p - 1)) rfl
  clear g7
  go_wp2_with fail
  refine (get_near _ _ 2 near7_2 _ h8.rd o7).mono ?_
  rw [Ha.out, hr8.out]
  rintro e w8 ⟨rfl, q8, t8⟩
  have g8 := h8.get q8 t8
  clear q8 t8 h8 cc zz
  have cc : w8.cell? ⟨w.heap.size + 1, 4, none⟩ = some (.int .i64 0) := g8.cell 4
  have zz := g8.fz 4
  have h9 : QAt w (w8.setCell ⟨w.heap.size + 1, 4, none⟩ (.int .i64 (a / 256))) ⟨ia, c, ib, p - 1, a / 256, f / 4, ch⟩ r8 := g8.set_ 4 (.int .i64 (a / 256)) rfl
  have l0 : w8.cell? ⟨w.heap.size + 1, 0, none⟩ = some (.int .i64 ia) := g8.cell 0
  have l1 : w8.cell? ⟨w.heap.size + 1, 1, none⟩ = some (.int .i64 c) := g8.cell 1
  have l2 : w8.cell? ⟨w.heap.size + 1, 2, none⟩ = some (.int .i64 ib) := g8.cell 2
  have l3 : w8.cell? ⟨w.heap.size + 1, 3, none⟩ = some (.int .i64 (p - 1)) := g8.cell 3
  have l5 : w8.cell? ⟨w.heap.size + 1, 5, none⟩ = some (.int .i64 (f / 4)) := g8.cell 5
  have l6 : w8.cell? ⟨w.heap.size + 1, 6, none⟩ = some (.bool ch) := g8.cell 6
  have y0 : w8.cell? ⟨w.heap.size, 0, none⟩ = some (.int .i64 0) := g8.res.cell 0
  have y1 : w8.cell? ⟨w.heap.size, 1, none⟩ = some (.int .i64 0) := g8.res.cell 1
  have y2 : w8.cell? ⟨w.heap.size, 2, none⟩ = some (.int .i64 0) := g8.res.cell 2
  have y3 : w8.cell? ⟨w.heap.size, 3, none⟩ = some (.int .i64 0) := g8.res.cell 3
  have y4 : w8.cell? ⟨w.heap.size, 4, none⟩ = some (.int .i64 0) := g8.res.cell 4
  have y5 : w8.cell? ⟨w.heap.size, 5, none⟩ = some (.int .i64 0) := g8.res.cell 5
  have y6 : w8.cell? ⟨w.heap.size, 6, none⟩ = some (.bool false) := g8.res.cell 6
  have x0 := g8.res.frozen 0
  have x1 := g8.res.frozen 1
  have x2 := g8.res.frozen 2
  have x3 := g8.res.frozen 3
  have x4 := g8.res.frozen 4
  have x5 := g8.res.frozen 5
  have x6 := g8.res.frozen 6
  have hres := (((((((h9.res.set_ 0 (.int .i64 ia)).set_ 1 (.int .i64 c)).set_ 2 (.int .i64 ib)).set_ 3 (.int .i64 (p - 1))).set_ 4 (.int .i64 (a / 256))).set_ 5 (.int .i64 (f / 4))).set_ 6 (.bool ch))
  have hbel := (((((((h9.bel.setCell (p := ⟨w.heap.size, 0, none⟩) (Nat.le_refl _) (.int .i64 ia)).setCell (p := ⟨w.heap.size, 1, none⟩) (Nat.le_refl _) (.int .i64 c)).setCell (p := ⟨w.heap.size, 2, none⟩) (Nat.le_refl _) (.int .i64 ib)).setCell (p := ⟨w.heap.size, 3, none⟩) (Nat.le_refl _) (.int .i64 (p - 1))).setCell (p := ⟨w.heap.size, 4, none⟩) (Nat.le_refl _) (.int .i64 (a / 256))).setCell (p := ⟨w.heap.size, 5, none⟩) (Nat.le_refl _) (.int .i64 (f / 4))).setCell (p := ⟨w.heap.size, 6, none⟩) (Nat.le_refl _) (.bool ch))
  clear g8 h9
  go_wp2
  refine bodyPost_ret (results_cell_row rfl _ _ w.heap.size 25 _ (0, 0) _ rfl hres Try.underlying25 rfl bp_info) rfl ⟨?_, hbel⟩
  rw [HP.out]
  rfl
end Go.Proofs.Ytkghaemnjfiliaa
