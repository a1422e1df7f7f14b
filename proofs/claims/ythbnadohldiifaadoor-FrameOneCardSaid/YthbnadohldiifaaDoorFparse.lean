/- frame.parse: the frame that a text may be. Its condition: a text of at most 2^20 bytes. -/
import Derived.Test.YthbnadohldiifaaDoorFgood
namespace Go.Proofs.YthbnadohldiifaaDoor
open Go.RowKit

/-- In the midst of the reading: the result's place, the frame's, the reader's. -/
structure PAt (w wk : World) (f : Fr) (r : RdS) : Prop where
  res : Blk wk w.heap.size 23 Fr.zero.cells
  var : Blk wk (w.heap.size + 1) 23 f.cells
  rd : IsR wk (w.heap.size + 2) r
  bel : Below w.heap.size w wk
theorem PAt.start {w w1 : World} {r : RdS} (hr : IsR w1 (w.heap.size + 2) r) (hb : Below (w.heap.size + 2) ((w.alloc (.cells Fr.zero.cells 23)).alloc (.cells Fr.zero.cells 23)) w1) : PAt w w1 Fr.zero r := by
  have e : (w.alloc (.cells Fr.zero.cells 23)).heap.size = w.heap.size + 1 := by simp
  have h1 := Blk.new (w.alloc (.cells Fr.zero.cells 23)) 23 Fr.zero.cells
  rw [e] at h1
  exact ⟨((Blk.new w _ _).alloc _).below hb (by omega), h1.below hb (by omega), hr, (bel_alloc2 _ _ _).trans (hb.mono (by omega))⟩
theorem PAt.start' {w w1 : World} {r : RdS} (hr : IsR w1 ((w.alloc (.cells Fr.zero.cells 23)).alloc (.cells Fr.zero.cells 23)).heap.size r) (hb : Below ((w.alloc (.cells Fr.zero.cells 23)).alloc (.cells Fr.zero.cells 23)).heap.size ((w.alloc (.cells Fr.zero.cells 23)).alloc (.cells Fr.zero.cells 23)) w1) : PAt w w1 Fr.zero r := by
  have e : ((w.alloc (.cells Fr.zero.cells 23)).alloc (.cells Fr.zero.cells 23)).heap.size = w.heap.size + 2 := by simp
  rw [e] at hr hb
  exact PAt.start hr hb
theorem PAt.get {w wk w' : World} {f : Fr} {r r' : RdS} (h : PAt w wk f r) (hr : IsR w' (w.heap.size + 2) r') (ht : Touch (· = w.heap.size + 2) wk w') : PAt w w' f r' :=
  ⟨h.res.touch ht (by omega), h.var.touch ht (by omega), hr, h.bel.trans (ht.below h.bel.size (by rintro k rfl; omega))⟩
theorem PAt.below {w wk w' : World} {f : Fr} {r : RdS} (h : PAt w wk f r) (hb : Below wk.heap.size wk w') : PAt w w' f r :=
  ⟨h.res.below hb h.res.lt, h.var.below hb h.var.lt, Blk.below h.rd hb (Blk.lt h.rd), h.bel.trans (hb.mono h.bel.size)⟩
theorem PAt.drewN {w wk : World} {f : Fr} {r : RdS} (h : PAt w wk f r) (n : Nat) : PAt w (wk.drewN n) f r :=
  ⟨h.res.drewN n, h.var.drewN n, Blk.drewN h.rd n, bel_drewN h.bel n⟩
theorem PAt.set_ {w wk : World} {f f' : Fr} {r : RdS} (h : PAt w wk f r) (i : Nat) (u : Value) (hf : f.cells.setIfInBounds i u = f'.cells) : PAt w (wk.setCell ⟨w.heap.size + 1, i, none⟩ u) f' r := by
  refine ⟨h.res.far (by simp) u, ?_, Blk.far h.rd (by simp) u, h.bel.setCell (by simp) u⟩
  rw [← hf]
  exact h.var.set_ i u
theorem PAt.cell {w wk : World} {f : Fr} {r : RdS} (h : PAt w wk f r) (i : Nat) : wk.cell? ⟨w.heap.size + 1, i, none⟩ = f.cells[i]? := h.var.cell i
theorem PAt.fz {w wk : World} {f : Fr} {r : RdS} (h : PAt w wk f r) (i : Nat) : wk.frozen? ⟨w.heap.size + 1, i, none⟩ = false := h.var.frozen i

theorem get_six (g : Nat) (r : RdS) (w : World) (h : IsR w g r) (hr : r.ok) :
    Calls Tryd.prog 34 #[.pointer (some ⟨g, 0, none⟩), .int .i64 6] w fun e w' => e = .returned (.int .i64 (r.get 6)) ∧ IsR w' g (r.take 6) ∧ Touch (· = g) w w' := by
  have h := get_any g r 6 w h hr
  rw [show near 6 7 = 6 by decide] at h
  exact h
theorem get_two (g : Nat) (r : RdS) (w : World) (h : IsR w g r) (hr : r.ok) :
    Calls Tryd.prog 34 #[.pointer (some ⟨g, 0, none⟩), .int .i64 2] w fun e w' => e = .returned (.int .i64 (r.get 2)) ∧ IsR w' g (r.take 2) ∧ Touch (· = g) w w' := by
  have h := get_any g r 2 w h hr
  rw [show near 2 7 = 2 by decide] at h
  exact h
theorem get_in (r : RdS) : 0 ≤ r.get 2 ∧ r.get 2 < 65536 := by
  have h1 := num_lt (r.text 2).data.toList
  have h2 := text_le r 2
  have h3 : (r.text 2).data.toList.length ≤ 2 := by
    rw [Array.length_toList]
    show (r.text 2).size ≤ 2
    omega
  have h4 : 256 ^ (r.text 2).data.toList.length ≤ 256 ^ 2 := Nat.pow_le_pow_right (by omega) h3
  unfold RdS.get
  omega

set_option maxHeartbeats 4000000 in
theorem parse_any (s : ByteArray) (w : World) (hs : s.size ≤ 1048576) :
    Calls Tryd.prog 25 #[.string s] w fun e w' => e = .returned ((Fr.parse s).v) ∧ Below w.heap.size w w' := by
  obtain ⟨r0, hr0⟩ : ∃ r : RdS, Hid (⟨s, 0, false⟩ = r) := ⟨_, Lib.hid rfl⟩
  have o0 : r0.ok := by rw [← hr0.out]; exact ⟨Nat.zero_le _, by show s.size ≤ _; omega⟩
  obtain ⟨r1, hr1⟩ : ∃ r : RdS, Hid (r0.take 6 = r) := ⟨_, Lib.hid rfl⟩
  have o1 : r1.ok := by rw [← hr1.out]; exact RdS.take_ok o0 6
  obtain ⟨r2, hr2⟩ : ∃ r : RdS, Hid (r1.take 6 = r) := ⟨_, Lib.hid rfl⟩
  have o2 : r2.ok := by rw [← hr2.out]; exact RdS.take_ok o1 6
  obtain ⟨r3, hr3⟩ : ∃ r : RdS, Hid (r2.take 2 = r) := ⟨_, Lib.hid rfl⟩
  have o3 : r3.ok := by rw [← hr3.out]; exact RdS.take_ok o2 2
  obtain ⟨d, hd⟩ : ∃ d, Hid (r0.get 6 = d) := ⟨_, Lib.hid rfl⟩
  obtain ⟨c, hc⟩ : ∃ d, Hid (r1.get 6 = d) := ⟨_, Lib.hid rfl⟩
  obtain ⟨k, hk⟩ : ∃ d, Hid (r2.get 2 = d) := ⟨_, Lib.hid rfl⟩
  have HP := Lib.hid (show Fr.parse s = if k = 33024 then Fr.rest ((r3.take 2).take 2) ((r3.take 2).get 2) (Fr.tag ⟨d, c, false, 0, 0, 0, ⟨#[]⟩⟩ (r3.get 2 % 4096) (r3.get 2 / 8192)) else Fr.rest r3 k ⟨d, c, false, 0, 0, 0, ⟨#[]⟩⟩ by
    rw [← hr3.out, ← hk.out, ← hc.out, ← hd.out, ← hr2.out, ← hr1.out, ← hr0.out]; rfl)
  go_enter Tryd.func25, Tryd.ntmps25
  go_wp2_with fail
  refine (open_any s _).mono ?_
  rw [hr0.out]
  rintro e w1 ⟨rfl, q1, b1⟩
  have h1 : PAt w w1 Fr.zero r0 := PAt.start' q1 b1
  clear q1 b1
  go_wp2_with fail
  refine (get_six _ _ _ h1.rd o0).mono ?_
  rw [hd.out, hr1.out]
  rintro e w2 ⟨rfl, q2, t2⟩
  have h2 := h1.get q2 t2
  clear q2 t2 h1
  have e2 : w2.cell? ⟨w.heap.size + 1, 0, none⟩ = some (.int .i64 0) := h2.cell 0
  have f2 := h2.fz 0
  have h2' : PAt w (w2.setCell ⟨w.heap.size + 1, 0, none⟩ (.int .i64 d)) ⟨d, 0, false, 0, 0, 0, ⟨#[]⟩⟩ r1 := h2.set_ 0 (.int .i64 d) rfl
  clear h2
  go_wp2_with fail
  refine (get_six _ _ _ h2'.rd o1).mono ?_
  rw [hc.out, hr2.out]
  rintro e w3 ⟨rfl, q3, t3⟩
  have h3 := h2'.get q3 t3
  clear q3 t3 h2' e2 f2
  have e3 : w3.cell? ⟨w.heap.size + 1, 1, none⟩ = some (.int .i64 0) := h3.cell 1
  have f3 := h3.fz 1
  have h3' : PAt w (w3.setCell ⟨w.heap.size + 1, 1, none⟩ (.int .i64 c)) ⟨d, c, false, 0, 0, 0, ⟨#[]⟩⟩ r2 := h3.set_ 1 (.int .i64 c) rfl
  clear h3
  go_wp2_with fail
  refine (get_two _ _ _ h3'.rd o2).mono ?_
  rw [hk.out, hr3.out]
  rintro e w4 ⟨rfl, q4, t4⟩
  have h4 := h3'.get q4 t4
  clear q4 t4 h3' e3 f3
  by_cases k0 : k = 33024
  · subst k0
    obtain ⟨g, hg⟩ : ∃ d, Hid (r3.get 2 = d) := ⟨_, Lib.hid rfl⟩
    obtain ⟨r4, hr4⟩ : ∃ r : RdS, Hid (r3.take 2 = r) := ⟨_, Lib.hid rfl⟩
    have hgb : 0 ≤ g ∧ g < 65536 := by rw [← hg.out]; exact get_in r3
    obtain ⟨g1, g2⟩ := hgb
    have a1 : bits .and .i64 g 4095 = g % 4096 := by
      rw [show (4095 : Int) = 2 ^ 12 - 1 from rfl, bits_mask .i64 63 (by decide) (fun n a b => IntWalk.i64_in _ (by omega)) 12 (by decide) _ (by omega) (by omega)]
      rfl
    have l0 : w4.cell? ⟨w.heap.size + 1, 0, none⟩ = some (.int .i64 d) := h4.cell 0
    go_wp2_with fail
    refine (get_two _ _ _ h4.rd o3).mono ?_
    rw [hg.out, hr4.out]
    rintro e w5 ⟨rfl, q5, t5⟩
    have h5 := h4.get q5 t5
    clear q5 t5 h4 l0
    have l0 : w5.cell? ⟨w.heap.size + 1, 0, none⟩ = some (.int .i64 d) := h5.cell 0
    have l1 : w5.cell? ⟨w.heap.size + 1, 1, none⟩ = some (.int .i64 c) := h5.cell 1
    have l2 : w5.cell? ⟨w.heap.size + 1, 2, none⟩ = some (.bool false) := h5.cell 2
    have l3 : w5.cell? ⟨w.heap.size + 1, 3, none⟩ = some (.int .i64 0) := h5.cell 3
    have l4 : w5.cell? ⟨w.heap.size + 1, 4, none⟩ = some (.int .i64 0) := h5.cell 4
    have l5 : w5.cell? ⟨w.heap.size + 1, 5, none⟩ = some (.int .i64 0) := h5.cell 5
    have l6 : w5.cell? ⟨w.heap.size + 1, 6, none⟩ = some (.string ⟨#[]⟩) := h5.cell 6
    go_wp2_with fail
    refine (tag_any ⟨d, c, false, 0, 0, 0, ⟨#[]⟩⟩ (g % 4096) (g / 8192) _).mono ?_
    rintro e w6 ⟨rfl, b6⟩
    have h6 := h5.below b6
    clear h5 b6 l0 l1 l2 l3 l4 l5 l6
    simp only [Fr.tag, Fr.v, Fr.cells]
    have l0 : w6.cell? ⟨w.heap.size + 1, 0, none⟩ = some (.int .i64 d) := h6.cell 0
    have l1 : w6.cell? ⟨w.heap.size + 1, 1, none⟩ = some (.int .i64 c) := h6.cell 1
    have l2 : w6.cell? ⟨w.heap.size + 1, 2, none⟩ = some (.bool false) := h6.cell 2
    have l3 : w6.cell? ⟨w.heap.size + 1, 3, none⟩ = some (.int .i64 0) := h6.cell 3
    have l4 : w6.cell? ⟨w.heap.size + 1, 4, none⟩ = some (.int .i64 0) := h6.cell 4
    have l5 : w6.cell? ⟨w.heap.size + 1, 5, none⟩ = some (.int .i64 0) := h6.cell 5
    have l6 : w6.cell? ⟨w.heap.size + 1, 6, none⟩ = some (.string ⟨#[]⟩) := h6.cell 6
    have z0 := h6.fz 0
    have z1 := h6.fz 1
    have z2 := h6.fz 2
    have z3 := h6.fz 3
    have z4 := h6.fz 4
    have z5 := h6.fz 5
    have z6 := h6.fz 6
    -- TAIL
    have h7 := (((((((h6.set_ (f' := ⟨d, c, false, 0, 0, 0, ⟨#[]⟩⟩) 0 (.int .i64 d) rfl).set_ (f' := ⟨d, c, false, 0, 0, 0, ⟨#[]⟩⟩) 1 (.int .i64 c) rfl).set_ (f' := ⟨d, c, true, 0, 0, 0, ⟨#[]⟩⟩) 2 (.bool true) rfl).set_ (f' := ⟨d, c, true, g % 4096, 0, 0, ⟨#[]⟩⟩) 3 (.int .i64 (g % 4096)) rfl).set_ (f' := ⟨d, c, true, g % 4096, g / 8192, 0, ⟨#[]⟩⟩) 4 (.int .i64 (g / 8192)) rfl).set_ (f' := ⟨d, c, true, g % 4096, g / 8192, 0, ⟨#[]⟩⟩) 5 (.int .i64 0) rfl).set_ (f' := ⟨d, c, true, g % 4096, g / 8192, 0, ⟨#[]⟩⟩) 6 (.string ⟨#[]⟩) rfl)
    obtain ⟨k2, hk2⟩ : ∃ d, Hid (r4.get 2 = d) := ⟨_, Lib.hid rfl⟩
    obtain ⟨r5, hr5⟩ : ∃ r : RdS, Hid (r4.take 2 = r) := ⟨_, Lib.hid rfl⟩
    have o4 : r4.ok := by rw [← hr4.out]; exact RdS.take_ok o3 2
    have o5 : r5.ok := by rw [← hr5.out]; exact RdS.take_ok o4 2
    have HR := Lib.hid (show Fr.parse s = Fr.rest r5 k2 ⟨d, c, true, g % 4096, g / 8192, 0, ⟨#[]⟩⟩ by rw [HP.out, if_pos trivial, hr4.out, hr5.out, hg.out, hk2.out]; rfl)
    go_wp2_with fail
    refine (get_two _ _ _ h7.rd o4).mono ?_
    rw [hk2.out, hr5.out]
    rintro e w8 ⟨rfl, q8, t8⟩
    have h8 := h7.get q8 t8
    clear q8 t8 h7 h6 l0 l1 l2 l3 l4 l5 l6 z0 z1 z2 z3 z4 z5 z6 a1
    by_cases hl : lengthB k2 = true
    · obtain ⟨q, hq⟩ : ∃ q : RdS, Hid (r5.take 3 = q) := ⟨_, Lib.hid rfl⟩
      have oq : q.ok := by rw [← hq.out]; exact RdS.take_ok o5 3
      obtain ⟨x, hx⟩ : ∃ x, Hid (q.text q.left = x) := ⟨_, Lib.hid rfl⟩
      have HS := Lib.hid (show Fr.parse s = ⟨d, c, true, g % 4096, g / 8192, 0, x⟩ by rw [HR.out, Fr.rest, if_pos hl, hq.out, hx.out])
      have HL := Lib.hid hl
      have hlq : (q.left : Int) ≤ 9223372036854775807 := by have := oq.2; unfold RdS.left; split <;> omega
      clear hl HP HR
      have l0 : w8.cell? ⟨w.heap.size + 1, 0, none⟩ = some (.int .i64 d) := h8.cell 0
      have l1 : w8.cell? ⟨w.heap.size + 1, 1, none⟩ = some (.int .i64 c) := h8.cell 1
      have l2 : w8.cell? ⟨w.heap.size + 1, 2, none⟩ = some (.bool true) := h8.cell 2
      have l3 : w8.cell? ⟨w.heap.size + 1, 3, none⟩ = some (.int .i64 (g % 4096)) := h8.cell 3
      have l4 : w8.cell? ⟨w.heap.size + 1, 4, none⟩ = some (.int .i64 (g / 8192)) := h8.cell 4
      have l5 : w8.cell? ⟨w.heap.size + 1, 5, none⟩ = some (.int .i64 0) := h8.cell 5
      have l6 : w8.cell? ⟨w.heap.size + 1, 6, none⟩ = some (.string ⟨#[]⟩) := h8.cell 6
      have z0 := h8.fz 0
      have z1 := h8.fz 1
      have z2 := h8.fz 2
      have z3 := h8.fz 3
      have z4 := h8.fz 4
      have z5 := h8.fz 5
      have z6 := h8.fz 6
      go_wp2_with fail
      refine (length_any _ _).mono ?_
      rw [HL.out]
      rintro e w' ⟨rfl, rfl⟩
      go_wp2_with fail
      refine (raw_any _ _ 3 _ h8.rd o5 (by decide)).mono ?_
      rw [hq.out]
      rintro e wa ⟨rfl, qa, ta⟩
      have ha := h8.get qa ta
      clear qa ta
      go_wp2_with fail
      refine (left_any _ _ _ ha.rd oq).mono ?_
      rintro e wb ⟨rfl, nb, rfl⟩
      have hb := ha.drewN nb
      go_wp2_with fail
      refine (raw_any _ _ q.left _ hb.rd oq hlq).mono ?_
      rw [hx.out]
      rintro e wc ⟨rfl, qc, tc⟩
      have hc' := hb.get qc tc
      clear qc tc hb ha
      clear l0 l1 l2 l3 l4 l5 l6 z0 z1 z2 z3 z4 z5 z6
      have l0 : wc.cell? ⟨w.heap.size + 1, 0, none⟩ = some (.int .i64 d) := hc'.cell 0
      have l1 : wc.cell? ⟨w.heap.size + 1, 1, none⟩ = some (.int .i64 c) := hc'.cell 1
      have l2 : wc.cell? ⟨w.heap.size + 1, 2, none⟩ = some (.bool true) := hc'.cell 2
      have l3 : wc.cell? ⟨w.heap.size + 1, 3, none⟩ = some (.int .i64 (g % 4096)) := hc'.cell 3
      have l4 : wc.cell? ⟨w.heap.size + 1, 4, none⟩ = some (.int .i64 (g / 8192)) := hc'.cell 4
      have l5 : wc.cell? ⟨w.heap.size + 1, 5, none⟩ = some (.int .i64 0) := hc'.cell 5
      have l6 : wc.cell? ⟨w.heap.size + 1, 6, none⟩ = some (.string ⟨#[]⟩) := hc'.cell 6
      have z6 := hc'.fz 6
      have y0 : wc.cell? ⟨w.heap.size, 0, none⟩ = some (.int .i64 0) := hc'.res.cell 0
      have y1 : wc.cell? ⟨w.heap.size, 1, none⟩ = some (.int .i64 0) := hc'.res.cell 1
      have y2 : wc.cell? ⟨w.heap.size, 2, none⟩ = some (.bool false) := hc'.res.cell 2
      have y3 : wc.cell? ⟨w.heap.size, 3, none⟩ = some (.int .i64 0) := hc'.res.cell 3
      have y4 : wc.cell? ⟨w.heap.size, 4, none⟩ = some (.int .i64 0) := hc'.res.cell 4
      have y5 : wc.cell? ⟨w.heap.size, 5, none⟩ = some (.int .i64 0) := hc'.res.cell 5
      have y6 : wc.cell? ⟨w.heap.size, 6, none⟩ = some (.string ⟨#[]⟩) := hc'.res.cell 6
      have x0 := hc'.res.frozen 0
      have x1 := hc'.res.frozen 1
      have x2 := hc'.res.frozen 2
      have x3 := hc'.res.frozen 3
      have x4 := hc'.res.frozen 4
      have x5 := hc'.res.frozen 5
      have x6 := hc'.res.frozen 6
      have hv : PAt w (wc.setCell ⟨w.heap.size + 1, 6, none⟩ (.string x)) ⟨d, c, true, g % 4096, g / 8192, 0, x⟩ (q.take q.left) := hc'.set_ 6 (.string x) rfl
      have hres := (((((((hv.res.set_ 0 (.int .i64 d)).set_ 1 (.int .i64 c)).set_ 2 (.bool true)).set_ 3 (.int .i64 (g % 4096))).set_ 4 (.int .i64 (g / 8192))).set_ 5 (.int .i64 0)).set_ 6 (.string x))
      have hbel := (((((((hv.bel.setCell (p := ⟨w.heap.size, 0, none⟩) (Nat.le_refl _) (.int .i64 d)).setCell (p := ⟨w.heap.size, 1, none⟩) (Nat.le_refl _) (.int .i64 c)).setCell (p := ⟨w.heap.size, 2, none⟩) (Nat.le_refl _) (.bool true)).setCell (p := ⟨w.heap.size, 3, none⟩) (Nat.le_refl _) (.int .i64 (g % 4096))).setCell (p := ⟨w.heap.size, 4, none⟩) (Nat.le_refl _) (.int .i64 (g / 8192))).setCell (p := ⟨w.heap.size, 5, none⟩) (Nat.le_refl _) (.int .i64 0)).setCell (p := ⟨w.heap.size, 6, none⟩) (Nat.le_refl _) (.string x))
      go_wp2
      refine bodyPost_ret (results_cell_row rfl _ _ w.heap.size 23 _ (0, 0) _ rfl hres Tryd.underlying23 rfl fr_info) rfl ⟨?_, hbel⟩
      rw [HS.out]
      rfl
    · have HL := Lib.hid (Bool.not_eq_true _ ▸ hl : lengthB k2 = false)
      obtain ⟨x, hx⟩ : ∃ x, Hid (r5.text r5.left = x) := ⟨_, Lib.hid rfl⟩
      have HS := Lib.hid (show Fr.parse s = ⟨d, c, true, g % 4096, g / 8192, k2, x⟩ by rw [HR.out, Fr.rest, if_neg hl, hx.out])
      have hlq : (r5.left : Int) ≤ 9223372036854775807 := by have := o5.2; unfold RdS.left; split <;> omega
      clear hl HP HR
      have l0 : w8.cell? ⟨w.heap.size + 1, 0, none⟩ = some (.int .i64 d) := h8.cell 0
      have l1 : w8.cell? ⟨w.heap.size + 1, 1, none⟩ = some (.int .i64 c) := h8.cell 1
      have l2 : w8.cell? ⟨w.heap.size + 1, 2, none⟩ = some (.bool true) := h8.cell 2
      have l3 : w8.cell? ⟨w.heap.size + 1, 3, none⟩ = some (.int .i64 (g % 4096)) := h8.cell 3
      have l4 : w8.cell? ⟨w.heap.size + 1, 4, none⟩ = some (.int .i64 (g / 8192)) := h8.cell 4
      have l5 : w8.cell? ⟨w.heap.size + 1, 5, none⟩ = some (.int .i64 0) := h8.cell 5
      have l6 : w8.cell? ⟨w.heap.size + 1, 6, none⟩ = some (.string ⟨#[]⟩) := h8.cell 6
      have z0 := h8.fz 0
      have z1 := h8.fz 1
      have z2 := h8.fz 2
      have z3 := h8.fz 3
      have z4 := h8.fz 4
      have z5 := h8.fz 5
      have z6 := h8.fz 6
      have ht : PAt w (w8.setCell ⟨w.heap.size + 1, 5, none⟩ (.int .i64 k2)) ⟨d, c, true, g % 4096, g / 8192, k2, ⟨#[]⟩⟩ r5 := h8.set_ 5 (.int .i64 k2) rfl
      go_wp2_with fail
      refine (length_any _ _).mono ?_
      rw [HL.out]
      rintro e w' ⟨rfl, rfl⟩
      go_wp2_with fail
      refine (left_any _ _ _ ht.rd o5).mono ?_
      rintro e wb ⟨rfl, nb, rfl⟩
      have hb := ht.drewN nb
      go_wp2_with fail
      refine (raw_any _ _ r5.left _ hb.rd o5 hlq).mono ?_
      rw [hx.out]
      rintro e wc ⟨rfl, qc, tc⟩
      have hc' := hb.get qc tc
      clear qc tc hb ht
      clear l0 l1 l2 l3 l4 l5 l6 z0 z1 z2 z3 z4 z5 z6
      have l0 : wc.cell? ⟨w.heap.size + 1, 0, none⟩ = some (.int .i64 d) := hc'.cell 0
      have l1 : wc.cell? ⟨w.heap.size + 1, 1, none⟩ = some (.int .i64 c) := hc'.cell 1
      have l2 : wc.cell? ⟨w.heap.size + 1, 2, none⟩ = some (.bool true) := hc'.cell 2
      have l3 : wc.cell? ⟨w.heap.size + 1, 3, none⟩ = some (.int .i64 (g % 4096)) := hc'.cell 3
      have l4 : wc.cell? ⟨w.heap.size + 1, 4, none⟩ = some (.int .i64 (g / 8192)) := hc'.cell 4
      have l5 : wc.cell? ⟨w.heap.size + 1, 5, none⟩ = some (.int .i64 k2) := hc'.cell 5
      have l6 : wc.cell? ⟨w.heap.size + 1, 6, none⟩ = some (.string ⟨#[]⟩) := hc'.cell 6
      have z6 := hc'.fz 6
      have y0 : wc.cell? ⟨w.heap.size, 0, none⟩ = some (.int .i64 0) := hc'.res.cell 0
      have y1 : wc.cell? ⟨w.heap.size, 1, none⟩ = some (.int .i64 0) := hc'.res.cell 1
      have y2 : wc.cell? ⟨w.heap.size, 2, none⟩ = some (.bool false) := hc'.res.cell 2
      have y3 : wc.cell? ⟨w.heap.size, 3, none⟩ = some (.int .i64 0) := hc'.res.cell 3
      have y4 : wc.cell? ⟨w.heap.size, 4, none⟩ = some (.int .i64 0) := hc'.res.cell 4
      have y5 : wc.cell? ⟨w.heap.size, 5, none⟩ = some (.int .i64 0) := hc'.res.cell 5
      have y6 : wc.cell? ⟨w.heap.size, 6, none⟩ = some (.string ⟨#[]⟩) := hc'.res.cell 6
      have x0 := hc'.res.frozen 0
      have x1 := hc'.res.frozen 1
      have x2 := hc'.res.frozen 2
      have x3 := hc'.res.frozen 3
      have x4 := hc'.res.frozen 4
      have x5 := hc'.res.frozen 5
      have x6 := hc'.res.frozen 6
      have hv : PAt w (wc.setCell ⟨w.heap.size + 1, 6, none⟩ (.string x)) ⟨d, c, true, g % 4096, g / 8192, k2, x⟩ (r5.take r5.left) := hc'.set_ 6 (.string x) rfl
      have hres := (((((((hv.res.set_ 0 (.int .i64 d)).set_ 1 (.int .i64 c)).set_ 2 (.bool true)).set_ 3 (.int .i64 (g % 4096))).set_ 4 (.int .i64 (g / 8192))).set_ 5 (.int .i64 k2)).set_ 6 (.string x))
      have hbel := (((((((hv.bel.setCell (p := ⟨w.heap.size, 0, none⟩) (Nat.le_refl _) (.int .i64 d)).setCell (p := ⟨w.heap.size, 1, none⟩) (Nat.le_refl _) (.int .i64 c)).setCell (p := ⟨w.heap.size, 2, none⟩) (Nat.le_refl _) (.bool true)).setCell (p := ⟨w.heap.size, 3, none⟩) (Nat.le_refl _) (.int .i64 (g % 4096))).setCell (p := ⟨w.heap.size, 4, none⟩) (Nat.le_refl _) (.int .i64 (g / 8192))).setCell (p := ⟨w.heap.size, 5, none⟩) (Nat.le_refl _) (.int .i64 k2)).setCell (p := ⟨w.heap.size, 6, none⟩) (Nat.le_refl _) (.string x))
      go_wp2
      refine bodyPost_ret (results_cell_row rfl _ _ w.heap.size 23 _ (0, 0) _ rfl hres Tryd.underlying23 rfl fr_info) rfl ⟨?_, hbel⟩
      rw [HS.out]
      rfl
  · have ek : (k == 33024) = false := by simpa using k0
    have HR := Lib.hid (show Fr.parse s = Fr.rest r3 k ⟨d, c, false, 0, 0, 0, ⟨#[]⟩⟩ by rw [HP.out, if_neg k0])
    clear k0
    by_cases hl : lengthB k = true
    · obtain ⟨q, hq⟩ : ∃ q : RdS, Hid (r3.take 3 = q) := ⟨_, Lib.hid rfl⟩
      have oq : q.ok := by rw [← hq.out]; exact RdS.take_ok o3 3
      obtain ⟨x, hx⟩ : ∃ x, Hid (q.text q.left = x) := ⟨_, Lib.hid rfl⟩
      have HS := Lib.hid (show Fr.parse s = ⟨d, c, false, 0, 0, 0, x⟩ by rw [HR.out, Fr.rest, if_pos hl, hq.out, hx.out])
      have HL := Lib.hid hl
      have hlq : (q.left : Int) ≤ 9223372036854775807 := by have := oq.2; unfold RdS.left; split <;> omega
      clear hl HP HR
      have l0 : w4.cell? ⟨w.heap.size + 1, 0, none⟩ = some (.int .i64 d) := h4.cell 0
      have l1 : w4.cell? ⟨w.heap.size + 1, 1, none⟩ = some (.int .i64 c) := h4.cell 1
      have l2 : w4.cell? ⟨w.heap.size + 1, 2, none⟩ = some (.bool false) := h4.cell 2
      have l3 : w4.cell? ⟨w.heap.size + 1, 3, none⟩ = some (.int .i64 (0)) := h4.cell 3
      have l4 : w4.cell? ⟨w.heap.size + 1, 4, none⟩ = some (.int .i64 (0)) := h4.cell 4
      have l5 : w4.cell? ⟨w.heap.size + 1, 5, none⟩ = some (.int .i64 0) := h4.cell 5
      have l6 : w4.cell? ⟨w.heap.size + 1, 6, none⟩ = some (.string ⟨#[]⟩) := h4.cell 6
      have z0 := h4.fz 0
      have z1 := h4.fz 1
      have z2 := h4.fz 2
      have z3 := h4.fz 3
      have z4 := h4.fz 4
      have z5 := h4.fz 5
      have z6 := h4.fz 6
      go_wp2_with fail
      refine (length_any _ _).mono ?_
      rw [HL.out]
      rintro e w' ⟨rfl, rfl⟩
      go_wp2_with fail
      refine (raw_any _ _ 3 _ h4.rd o3 (by decide)).mono ?_
      rw [hq.out]
      rintro e wa ⟨rfl, qa, ta⟩
      have ha := h4.get qa ta
      clear qa ta
      go_wp2_with fail
      refine (left_any _ _ _ ha.rd oq).mono ?_
      rintro e wb ⟨rfl, nb, rfl⟩
      have hb := ha.drewN nb
      go_wp2_with fail
      refine (raw_any _ _ q.left _ hb.rd oq hlq).mono ?_
      rw [hx.out]
      rintro e wc ⟨rfl, qc, tc⟩
      have hc' := hb.get qc tc
      clear qc tc hb ha
      clear l0 l1 l2 l3 l4 l5 l6 z0 z1 z2 z3 z4 z5 z6
      have l0 : wc.cell? ⟨w.heap.size + 1, 0, none⟩ = some (.int .i64 d) := hc'.cell 0
      have l1 : wc.cell? ⟨w.heap.size + 1, 1, none⟩ = some (.int .i64 c) := hc'.cell 1
      have l2 : wc.cell? ⟨w.heap.size + 1, 2, none⟩ = some (.bool false) := hc'.cell 2
      have l3 : wc.cell? ⟨w.heap.size + 1, 3, none⟩ = some (.int .i64 (0)) := hc'.cell 3
      have l4 : wc.cell? ⟨w.heap.size + 1, 4, none⟩ = some (.int .i64 (0)) := hc'.cell 4
      have l5 : wc.cell? ⟨w.heap.size + 1, 5, none⟩ = some (.int .i64 0) := hc'.cell 5
      have l6 : wc.cell? ⟨w.heap.size + 1, 6, none⟩ = some (.string ⟨#[]⟩) := hc'.cell 6
      have z6 := hc'.fz 6
      have y0 : wc.cell? ⟨w.heap.size, 0, none⟩ = some (.int .i64 0) := hc'.res.cell 0
      have y1 : wc.cell? ⟨w.heap.size, 1, none⟩ = some (.int .i64 0) := hc'.res.cell 1
      have y2 : wc.cell? ⟨w.heap.size, 2, none⟩ = some (.bool false) := hc'.res.cell 2
      have y3 : wc.cell? ⟨w.heap.size, 3, none⟩ = some (.int .i64 0) := hc'.res.cell 3
      have y4 : wc.cell? ⟨w.heap.size, 4, none⟩ = some (.int .i64 0) := hc'.res.cell 4
      have y5 : wc.cell? ⟨w.heap.size, 5, none⟩ = some (.int .i64 0) := hc'.res.cell 5
      have y6 : wc.cell? ⟨w.heap.size, 6, none⟩ = some (.string ⟨#[]⟩) := hc'.res.cell 6
      have x0 := hc'.res.frozen 0
      have x1 := hc'.res.frozen 1
      have x2 := hc'.res.frozen 2
      have x3 := hc'.res.frozen 3
      have x4 := hc'.res.frozen 4
      have x5 := hc'.res.frozen 5
      have x6 := hc'.res.frozen 6
      have hv : PAt w (wc.setCell ⟨w.heap.size + 1, 6, none⟩ (.string x)) ⟨d, c, false, 0, 0, 0, x⟩ (q.take q.left) := hc'.set_ 6 (.string x) rfl
      have hres := (((((((hv.res.set_ 0 (.int .i64 d)).set_ 1 (.int .i64 c)).set_ 2 (.bool false)).set_ 3 (.int .i64 (0))).set_ 4 (.int .i64 (0))).set_ 5 (.int .i64 0)).set_ 6 (.string x))
      have hbel := (((((((hv.bel.setCell (p := ⟨w.heap.size, 0, none⟩) (Nat.le_refl _) (.int .i64 d)).setCell (p := ⟨w.heap.size, 1, none⟩) (Nat.le_refl _) (.int .i64 c)).setCell (p := ⟨w.heap.size, 2, none⟩) (Nat.le_refl _) (.bool false)).setCell (p := ⟨w.heap.size, 3, none⟩) (Nat.le_refl _) (.int .i64 (0))).setCell (p := ⟨w.heap.size, 4, none⟩) (Nat.le_refl _) (.int .i64 (0))).setCell (p := ⟨w.heap.size, 5, none⟩) (Nat.le_refl _) (.int .i64 0)).setCell (p := ⟨w.heap.size, 6, none⟩) (Nat.le_refl _) (.string x))
      go_wp2
      refine bodyPost_ret (results_cell_row rfl _ _ w.heap.size 23 _ (0, 0) _ rfl hres Tryd.underlying23 rfl fr_info) rfl ⟨?_, hbel⟩
      rw [HS.out]
      rfl
    · have HL := Lib.hid (Bool.not_eq_true _ ▸ hl : lengthB k = false)
      obtain ⟨x, hx⟩ : ∃ x, Hid (r3.text r3.left = x) := ⟨_, Lib.hid rfl⟩
      have HS := Lib.hid (show Fr.parse s = ⟨d, c, false, 0, 0, k, x⟩ by rw [HR.out, Fr.rest, if_neg hl, hx.out])
      have hlq : (r3.left : Int) ≤ 9223372036854775807 := by have := o3.2; unfold RdS.left; split <;> omega
      clear hl HP HR
      have l0 : w4.cell? ⟨w.heap.size + 1, 0, none⟩ = some (.int .i64 d) := h4.cell 0
      have l1 : w4.cell? ⟨w.heap.size + 1, 1, none⟩ = some (.int .i64 c) := h4.cell 1
      have l2 : w4.cell? ⟨w.heap.size + 1, 2, none⟩ = some (.bool false) := h4.cell 2
      have l3 : w4.cell? ⟨w.heap.size + 1, 3, none⟩ = some (.int .i64 (0)) := h4.cell 3
      have l4 : w4.cell? ⟨w.heap.size + 1, 4, none⟩ = some (.int .i64 (0)) := h4.cell 4
      have l5 : w4.cell? ⟨w.heap.size + 1, 5, none⟩ = some (.int .i64 0) := h4.cell 5
      have l6 : w4.cell? ⟨w.heap.size + 1, 6, none⟩ = some (.string ⟨#[]⟩) := h4.cell 6
      have z0 := h4.fz 0
      have z1 := h4.fz 1
      have z2 := h4.fz 2
      have z3 := h4.fz 3
      have z4 := h4.fz 4
      have z5 := h4.fz 5
      have z6 := h4.fz 6
      have ht : PAt w (w4.setCell ⟨w.heap.size + 1, 5, none⟩ (.int .i64 k)) ⟨d, c, false, 0, 0, k, ⟨#[]⟩⟩ r3 := h4.set_ 5 (.int .i64 k) rfl
      go_wp2_with fail
      refine (length_any _ _).mono ?_
      rw [HL.out]
      rintro e w' ⟨rfl, rfl⟩
      go_wp2_with fail
      refine (left_any _ _ _ ht.rd o3).mono ?_
      rintro e wb ⟨rfl, nb, rfl⟩
      have hb := ht.drewN nb
      go_wp2_with fail
      refine (raw_any _ _ r3.left _ hb.rd o3 hlq).mono ?_
      rw [hx.out]
      rintro e wc ⟨rfl, qc, tc⟩
      have hc' := hb.get qc tc
      clear qc tc hb ht
      clear l0 l1 l2 l3 l4 l5 l6 z0 z1 z2 z3 z4 z5 z6
      have l0 : wc.cell? ⟨w.heap.size + 1, 0, none⟩ = some (.int .i64 d) := hc'.cell 0
      have l1 : wc.cell? ⟨w.heap.size + 1, 1, none⟩ = some (.int .i64 c) := hc'.cell 1
      have l2 : wc.cell? ⟨w.heap.size + 1, 2, none⟩ = some (.bool false) := hc'.cell 2
      have l3 : wc.cell? ⟨w.heap.size + 1, 3, none⟩ = some (.int .i64 (0)) := hc'.cell 3
      have l4 : wc.cell? ⟨w.heap.size + 1, 4, none⟩ = some (.int .i64 (0)) := hc'.cell 4
      have l5 : wc.cell? ⟨w.heap.size + 1, 5, none⟩ = some (.int .i64 k) := hc'.cell 5
      have l6 : wc.cell? ⟨w.heap.size + 1, 6, none⟩ = some (.string ⟨#[]⟩) := hc'.cell 6
      have z6 := hc'.fz 6
      have y0 : wc.cell? ⟨w.heap.size, 0, none⟩ = some (.int .i64 0) := hc'.res.cell 0
      have y1 : wc.cell? ⟨w.heap.size, 1, none⟩ = some (.int .i64 0) := hc'.res.cell 1
      have y2 : wc.cell? ⟨w.heap.size, 2, none⟩ = some (.bool false) := hc'.res.cell 2
      have y3 : wc.cell? ⟨w.heap.size, 3, none⟩ = some (.int .i64 0) := hc'.res.cell 3
      have y4 : wc.cell? ⟨w.heap.size, 4, none⟩ = some (.int .i64 0) := hc'.res.cell 4
      have y5 : wc.cell? ⟨w.heap.size, 5, none⟩ = some (.int .i64 0) := hc'.res.cell 5
      have y6 : wc.cell? ⟨w.heap.size, 6, none⟩ = some (.string ⟨#[]⟩) := hc'.res.cell 6
      have x0 := hc'.res.frozen 0
      have x1 := hc'.res.frozen 1
      have x2 := hc'.res.frozen 2
      have x3 := hc'.res.frozen 3
      have x4 := hc'.res.frozen 4
      have x5 := hc'.res.frozen 5
      have x6 := hc'.res.frozen 6
      have hv : PAt w (wc.setCell ⟨w.heap.size + 1, 6, none⟩ (.string x)) ⟨d, c, false, 0, 0, k, x⟩ (r3.take r3.left) := hc'.set_ 6 (.string x) rfl
      have hres := (((((((hv.res.set_ 0 (.int .i64 d)).set_ 1 (.int .i64 c)).set_ 2 (.bool false)).set_ 3 (.int .i64 (0))).set_ 4 (.int .i64 (0))).set_ 5 (.int .i64 k)).set_ 6 (.string x))
      have hbel := (((((((hv.bel.setCell (p := ⟨w.heap.size, 0, none⟩) (Nat.le_refl _) (.int .i64 d)).setCell (p := ⟨w.heap.size, 1, none⟩) (Nat.le_refl _) (.int .i64 c)).setCell (p := ⟨w.heap.size, 2, none⟩) (Nat.le_refl _) (.bool false)).setCell (p := ⟨w.heap.size, 3, none⟩) (Nat.le_refl _) (.int .i64 (0))).setCell (p := ⟨w.heap.size, 4, none⟩) (Nat.le_refl _) (.int .i64 (0))).setCell (p := ⟨w.heap.size, 5, none⟩) (Nat.le_refl _) (.int .i64 k)).setCell (p := ⟨w.heap.size, 6, none⟩) (Nat.le_refl _) (.string x))
      go_wp2
      refine bodyPost_ret (results_cell_row rfl _ _ w.heap.size 23 _ (0, 0) _ rfl hres Tryd.underlying23 rfl fr_info) rfl ⟨?_, hbel⟩
      rw [HS.out]
      rfl
end Go.Proofs.YthbnadohldiifaaDoor
