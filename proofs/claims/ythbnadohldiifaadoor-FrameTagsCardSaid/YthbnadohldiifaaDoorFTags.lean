/- FrameTags: a frame with up to 1000 bytes of data that is tagged and untagged is as it was without a tag, and can be, if it could, just with such a tag as the document says; of a frame with more data nothing is asked. Condition: the table check.turns reads as the program's text lays it (the card ties that). -/
import Derived.Test.YthbnadohldiifaaDoorLaid
import Derived.Test.YthbnadohldiifaaDoorFalive
import Derived.Test.YthbnadohldiifaaDoorFopen
import Derived.Test.YthbnadohldiifaaDoorTie
import Derived.Test.YthbnadohldiifaaDoorCards
namespace Go.Proofs.YthbnadohldiifaaDoor
open Go.ChangeShapes Go.WideShapes Go.ChangeAt Go.RowKit
open Go.ChangeMaps (open_string shut_string)

theorem good_six {f : Fr} (h : f.good = true) : goodB f.dst = true ∧ goodB f.src = true ∧ manyB f.src = false ∧ ftypeB f.typ = true ∧ decide ((f.data.size : Int) ≤ 400) = true := by
  unfold Fr.good at h
  rw [Bool.and_eq_true, Bool.and_eq_true, Bool.and_eq_true, Bool.and_eq_true, Bool.and_eq_true] at h
  obtain ⟨⟨⟨⟨⟨h1, h2⟩, h3⟩, _⟩, h5⟩, h6⟩ := h
  exact ⟨h1, h2, by simpa using h3, h5, h6⟩
theorem untag_good {f : Fr} (h : f.good = true) : f.untag.good = true := by
  obtain ⟨h1, h2, h3, h5, h6⟩ := good_six h
  obtain ⟨dst, src, tagged, vid, prio, typ, data⟩ := f
  exact (good_parts (vid := 0) (prio := 0) (tagged := false) h1 h2 h3 (show tagB _ = true from rfl) h5 h6).trans rfl
theorem tag_good {f : Fr} (h : f.good = true) (vid prio : Int) : (f.tag vid prio).good = decide (0 ≤ vid ∧ vid ≤ 4094 ∧ 0 ≤ prio ∧ prio ≤ 7) := by
  obtain ⟨h1, h2, h3, h5, h6⟩ := good_six h
  obtain ⟨dst, src, tagged, v0, p0, typ, data⟩ := f
  refine (good_parts (vid := vid) (prio := prio) (tagged := true) h1 h2 h3 (show tagB _ = decide (0 ≤ vid ∧ vid ≤ 4094 ∧ 0 ≤ prio ∧ prio ≤ 7) from rfl) h5 h6).trans ?_
  simp

set_option maxHeartbeats 4000000 in
theorem walkFrameTags (f : Fr) (vid prio : Int) (w : World) (ht : Tab w) (_hv : (Lit.int .i64 vid).wf = true) (_hp : (Lit.int .i64 prio).wf = true) :
    Calls Tryd.prog 6 #[f.v, .int .i64 vid, .int .i64 prio] w fun e w' => e = .returned (.bool true) ∧ Below w.heap.size w w' := by
  have hb0 := bel_alloc w (.cells f.cells 23)
  have hblk := Blk.new w 23 f.cells
  have ht0 := ht.alloc (.cells f.cells 23)
  obtain ⟨good, HB⟩ : ∃ b, Hid (f.good = b) := ⟨_, Lib.hid rfl⟩
  have hug := @untag_good f
  have htg := @tag_good f
  obtain ⟨dst, src, tagged, v0, p0, typ, data⟩ := f
  simp only [Fr.v, Fr.cells] at hb0 hblk ht0 ⊢
  by_cases hs : (data.size : Int) ≤ 1000
  rotate_left
  · have d1 : decide ((1000 : Int) < (data.size : Int)) = true := by simp; omega
    clear hug htg
    go_enter Tryd.func6, Tryd.ntmps6
    go_wp2_with fail
    refine (alive_any _ ht0).mono ?_
    rintro e w1 ⟨rfl, b1⟩
    have k1 := hblk.below b1 hblk.lt
    have hb1 := hb0.trans (b1.mono hb0.size)
    have l6 : w1.cell? ⟨w.heap.size, 6, none⟩ = some (.string data) := k1.cell 6
    go_wp2
    go_ret
    exact ⟨rfl, hb1⟩
  have d1 : decide ((1000 : Int) < (data.size : Int)) = false := by simp; omega
  have HU : Hid (Fr.good ⟨dst, src, tagged, v0, p0, typ, data⟩ = true → Fr.good ⟨dst, src, false, 0, 0, typ, data⟩ = true) := Lib.hid hug
  have HT : Hid (Fr.good ⟨dst, src, tagged, v0, p0, typ, data⟩ = true → ∀ vid prio, Fr.good ⟨dst, src, true, vid, prio, typ, data⟩ = decide (0 ≤ vid ∧ vid ≤ 4094 ∧ 0 ≤ prio ∧ prio ≤ 7)) := Lib.hid htg
  clear hug htg hs
  go_enter Tryd.func6, Tryd.ntmps6
  go_wp2_with fail
  refine (alive_any _ ht0).mono ?_
  rintro e w1 ⟨rfl, b1⟩
  have k1 := hblk.below b1 hblk.lt
  have hb1 := hb0.trans (b1.mono hb0.size)
  have l0 : w1.cell? ⟨w.heap.size, 0, none⟩ = some (.int .i64 dst) := k1.cell 0
  have l1 : w1.cell? ⟨w.heap.size, 1, none⟩ = some (.int .i64 src) := k1.cell 1
  have l2 : w1.cell? ⟨w.heap.size, 2, none⟩ = some (.bool tagged) := k1.cell 2
  have l3 : w1.cell? ⟨w.heap.size, 3, none⟩ = some (.int .i64 v0) := k1.cell 3
  have l4 : w1.cell? ⟨w.heap.size, 4, none⟩ = some (.int .i64 p0) := k1.cell 4
  have l5 : w1.cell? ⟨w.heap.size, 5, none⟩ = some (.int .i64 typ) := k1.cell 5
  have l6 : w1.cell? ⟨w.heap.size, 6, none⟩ = some (.string data) := k1.cell 6
  go_wp2_with fail
  refine (tag_any ⟨dst, src, tagged, v0, p0, typ, data⟩ vid prio _).mono ?_
  simp only [Fr.v, Fr.tag, Fr.cells]
  rintro e w2 ⟨rfl, b2⟩
  have k2 := (k1.below b2 k1.lt).alloc (.cells #[.int .i64 dst, .int .i64 src, .bool true, .int .i64 vid, .int .i64 prio, .int .i64 typ, .string data] 23)
  have t2 := Blk.new w2 23 #[.int .i64 dst, .int .i64 src, .bool true, .int .i64 vid, .int .i64 prio, .int .i64 typ, .string data]
  have hb2 := hb1.trans (b2.mono hb1.size)
  have hb2' := hb2.alloc hb2.size (.cells #[.int .i64 dst, .int .i64 src, .bool true, .int .i64 vid, .int .i64 prio, .int .i64 typ, .string data] 23)
  clear l0 l1 l2 l3 l4 l5 l6 b1 b2 k1 hb1
  go_wp2_with fail
  refine (untag_any ⟨dst, src, true, vid, prio, typ, data⟩ _).mono ?_
  simp only [Fr.v, Fr.untag, Fr.cells]
  rintro e w3 ⟨rfl, b3⟩
  have k3 := (k2.below b3 k2.lt).alloc (.cells #[.int .i64 dst, .int .i64 src, .bool false, .int .i64 0, .int .i64 0, .int .i64 typ, .string data] 23)
  have t3 := (t2.below b3 t2.lt).alloc (.cells #[.int .i64 dst, .int .i64 src, .bool false, .int .i64 0, .int .i64 0, .int .i64 typ, .string data] 23)
  have u3 := Blk.new w3 23 #[.int .i64 dst, .int .i64 src, .bool false, .int .i64 0, .int .i64 0, .int .i64 typ, .string data]
  have hb3 := hb2'.trans (b3.mono hb2'.size)
  have hb3' := hb3.alloc hb3.size (.cells #[.int .i64 dst, .int .i64 src, .bool false, .int .i64 0, .int .i64 0, .int .i64 typ, .string data] 23)
  have l0 : (w3.alloc (.cells #[.int .i64 dst, .int .i64 src, .bool false, .int .i64 0, .int .i64 0, .int .i64 typ, .string data] 23)).cell? ⟨w.heap.size, 0, none⟩ = some (.int .i64 dst) := k3.cell 0
  have l1 : (w3.alloc (.cells #[.int .i64 dst, .int .i64 src, .bool false, .int .i64 0, .int .i64 0, .int .i64 typ, .string data] 23)).cell? ⟨w.heap.size, 1, none⟩ = some (.int .i64 src) := k3.cell 1
  have l2 : (w3.alloc (.cells #[.int .i64 dst, .int .i64 src, .bool false, .int .i64 0, .int .i64 0, .int .i64 typ, .string data] 23)).cell? ⟨w.heap.size, 2, none⟩ = some (.bool tagged) := k3.cell 2
  have l3 : (w3.alloc (.cells #[.int .i64 dst, .int .i64 src, .bool false, .int .i64 0, .int .i64 0, .int .i64 typ, .string data] 23)).cell? ⟨w.heap.size, 3, none⟩ = some (.int .i64 v0) := k3.cell 3
  have l4 : (w3.alloc (.cells #[.int .i64 dst, .int .i64 src, .bool false, .int .i64 0, .int .i64 0, .int .i64 typ, .string data] 23)).cell? ⟨w.heap.size, 4, none⟩ = some (.int .i64 p0) := k3.cell 4
  have l5 : (w3.alloc (.cells #[.int .i64 dst, .int .i64 src, .bool false, .int .i64 0, .int .i64 0, .int .i64 typ, .string data] 23)).cell? ⟨w.heap.size, 5, none⟩ = some (.int .i64 typ) := k3.cell 5
  have l6 : (w3.alloc (.cells #[.int .i64 dst, .int .i64 src, .bool false, .int .i64 0, .int .i64 0, .int .i64 typ, .string data] 23)).cell? ⟨w.heap.size, 6, none⟩ = some (.string data) := k3.cell 6
  have e3 : (w3.alloc (.cells #[.int .i64 dst, .int .i64 src, .bool false, .int .i64 0, .int .i64 0, .int .i64 typ, .string data] 23)).heap.size = w3.heap.size + 1 := by simp
  have k4 := k3.alloc (.cells #[.int .i64 dst, .int .i64 src, .bool false, .int .i64 0, .int .i64 0, .int .i64 typ, .string data] 23)
  have t4 := t3.alloc (.cells #[.int .i64 dst, .int .i64 src, .bool false, .int .i64 0, .int .i64 0, .int .i64 typ, .string data] 23)
  have u4 := u3.alloc (.cells #[.int .i64 dst, .int .i64 src, .bool false, .int .i64 0, .int .i64 0, .int .i64 typ, .string data] 23)
  have x4 := Blk.new (w3.alloc (.cells #[.int .i64 dst, .int .i64 src, .bool false, .int .i64 0, .int .i64 0, .int .i64 typ, .string data] 23)) 23 #[.int .i64 dst, .int .i64 src, .bool false, .int .i64 0, .int .i64 0, .int .i64 typ, .string data]
  rw [e3] at x4
  have hb4 := hb3'.alloc hb3'.size (.cells #[.int .i64 dst, .int .i64 src, .bool false, .int .i64 0, .int .i64 0, .int .i64 typ, .string data] 23)
  clear e3 k3 t3 u3 hb3 hb3' k2 t2 hb2 hb2' b3
  go_wp2_with fail
  clear l0 l1 l2 l3 l4 l5 l6
  generalize ((w3.alloc (.cells #[.int .i64 dst, .int .i64 src, .bool false, .int .i64 0, .int .i64 0, .int .i64 typ, .string data] 23)).alloc (.cells #[.int .i64 dst, .int .i64 src, .bool false, .int .i64 0, .int .i64 0, .int .i64 typ, .string data] 23)) = W at *
  have l0 : W.cell? ⟨w.heap.size, 0, none⟩ = some (.int .i64 dst) := k4.cell 0
  have l1 : W.cell? ⟨w.heap.size, 1, none⟩ = some (.int .i64 src) := k4.cell 1
  have l2 : W.cell? ⟨w.heap.size, 2, none⟩ = some (.bool tagged) := k4.cell 2
  have l3 : W.cell? ⟨w.heap.size, 3, none⟩ = some (.int .i64 v0) := k4.cell 3
  have l4 : W.cell? ⟨w.heap.size, 4, none⟩ = some (.int .i64 p0) := k4.cell 4
  have l5 : W.cell? ⟨w.heap.size, 5, none⟩ = some (.int .i64 typ) := k4.cell 5
  have l6 : W.cell? ⟨w.heap.size, 6, none⟩ = some (.string data) := k4.cell 6
  have m0 : W.cell? ⟨w2.heap.size, 0, none⟩ = some (.int .i64 dst) := t4.cell 0
  have m1 : W.cell? ⟨w2.heap.size, 1, none⟩ = some (.int .i64 src) := t4.cell 1
  have m2 : W.cell? ⟨w2.heap.size, 2, none⟩ = some (.bool true) := t4.cell 2
  have m3 : W.cell? ⟨w2.heap.size, 3, none⟩ = some (.int .i64 vid) := t4.cell 3
  have m4 : W.cell? ⟨w2.heap.size, 4, none⟩ = some (.int .i64 prio) := t4.cell 4
  have m5 : W.cell? ⟨w2.heap.size, 5, none⟩ = some (.int .i64 typ) := t4.cell 5
  have m6 : W.cell? ⟨w2.heap.size, 6, none⟩ = some (.string data) := t4.cell 6
  have n0 : W.cell? ⟨w3.heap.size, 0, none⟩ = some (.int .i64 dst) := u4.cell 0
  have n1 : W.cell? ⟨w3.heap.size, 1, none⟩ = some (.int .i64 src) := u4.cell 1
  have n2 : W.cell? ⟨w3.heap.size, 2, none⟩ = some (.bool false) := u4.cell 2
  have n3 : W.cell? ⟨w3.heap.size, 3, none⟩ = some (.int .i64 0) := u4.cell 3
  have n4 : W.cell? ⟨w3.heap.size, 4, none⟩ = some (.int .i64 0) := u4.cell 4
  have n5 : W.cell? ⟨w3.heap.size, 5, none⟩ = some (.int .i64 typ) := u4.cell 5
  have n6 : W.cell? ⟨w3.heap.size, 6, none⟩ = some (.string data) := u4.cell 6
  have o0 : W.cell? ⟨w3.heap.size + 1, 0, none⟩ = some (.int .i64 dst) := x4.cell 0
  have o1 : W.cell? ⟨w3.heap.size + 1, 1, none⟩ = some (.int .i64 src) := x4.cell 1
  have o2 : W.cell? ⟨w3.heap.size + 1, 2, none⟩ = some (.bool false) := x4.cell 2
  have o3 : W.cell? ⟨w3.heap.size + 1, 3, none⟩ = some (.int .i64 0) := x4.cell 3
  have o4 : W.cell? ⟨w3.heap.size + 1, 4, none⟩ = some (.int .i64 0) := x4.cell 4
  have o5 : W.cell? ⟨w3.heap.size + 1, 5, none⟩ = some (.int .i64 typ) := x4.cell 5
  have o6 : W.cell? ⟨w3.heap.size + 1, 6, none⟩ = some (.string data) := x4.cell 6
  go_region_law ((go_simp; go_at_call 15; refine (untag_any ⟨dst, src, tagged, v0, p0, typ, data⟩ (World.drew W)).mono ?_; simp only [Fr.v, Fr.untag, Fr.cells]; rintro e wz ⟨rfl, bz⟩; have kz := k4.drew.below bz k4.drew.lt; have tz := t4.drew.below bz t4.drew.lt; have uz := u4.drew.below bz u4.drew.lt; have xz := x4.drew.below bz x4.drew.lt; have hbz := hb4.drew.trans (bz.mono hb4.drew.size); have z0 : wz.cell? ⟨w3.heap.size + 1, 0, none⟩ = some (.int .i64 dst) := xz.cell 0; have z1 : wz.cell? ⟨w3.heap.size + 1, 1, none⟩ = some (.int .i64 src) := xz.cell 1; have z2 : wz.cell? ⟨w3.heap.size + 1, 2, none⟩ = some (.bool false) := xz.cell 2; have z3 : wz.cell? ⟨w3.heap.size + 1, 3, none⟩ = some (.int .i64 0) := xz.cell 3; have z4 : wz.cell? ⟨w3.heap.size + 1, 4, none⟩ = some (.int .i64 0) := xz.cell 4; have z5 : wz.cell? ⟨w3.heap.size + 1, 5, none⟩ = some (.int .i64 typ) := xz.cell 5; have z6 : wz.cell? ⟨w3.heap.size + 1, 6, none⟩ = some (.string data) := xz.cell 6))
  all_goals
    clear l0 l1 l2 l3 l4 l5 l6 m0 m1 m2 m3 m4 m5 m6 n0 n1 n2 n3 n4 n5 n6 o0 o1 o2 o3 o4 o5 o6 z0 z1 z2 z3 z4 z5 z6 k4 t4 u4 x4 hb4 bz xz
    have l0 : wz.cell? ⟨w.heap.size, 0, none⟩ = some (.int .i64 dst) := kz.cell 0
    have l1 : wz.cell? ⟨w.heap.size, 1, none⟩ = some (.int .i64 src) := kz.cell 1
    have l2 : wz.cell? ⟨w.heap.size, 2, none⟩ = some (.bool tagged) := kz.cell 2
    have l3 : wz.cell? ⟨w.heap.size, 3, none⟩ = some (.int .i64 v0) := kz.cell 3
    have l4 : wz.cell? ⟨w.heap.size, 4, none⟩ = some (.int .i64 p0) := kz.cell 4
    have l5 : wz.cell? ⟨w.heap.size, 5, none⟩ = some (.int .i64 typ) := kz.cell 5
    have l6 : wz.cell? ⟨w.heap.size, 6, none⟩ = some (.string data) := kz.cell 6
    go_wp2_with fail
    refine (rgood_any ⟨dst, src, tagged, v0, p0, typ, data⟩ _).mono ?_
    rw [HB.out]
    rintro e wa ⟨rfl, ba⟩
    have ta := tz.below ba tz.lt
    have ua := uz.below ba uz.lt
    have hba := hbz.trans (ba.mono hbz.size)
    clear l0 l1 l2 l3 l4 l5 l6 kz tz uz hbz ba
    cases good
    · go_wp2
      go_ret
      exact ⟨rfl, hba⟩
    · have n0 : wa.cell? ⟨w3.heap.size, 0, none⟩ = some (.int .i64 dst) := ua.cell 0
      have n1 : wa.cell? ⟨w3.heap.size, 1, none⟩ = some (.int .i64 src) := ua.cell 1
      have n2 : wa.cell? ⟨w3.heap.size, 2, none⟩ = some (.bool false) := ua.cell 2
      have n3 : wa.cell? ⟨w3.heap.size, 3, none⟩ = some (.int .i64 0) := ua.cell 3
      have n4 : wa.cell? ⟨w3.heap.size, 4, none⟩ = some (.int .i64 0) := ua.cell 4
      have n5 : wa.cell? ⟨w3.heap.size, 5, none⟩ = some (.int .i64 typ) := ua.cell 5
      have n6 : wa.cell? ⟨w3.heap.size, 6, none⟩ = some (.string data) := ua.cell 6
      have HU2 := Lib.hid (HU.out HB.out)
      obtain ⟨D, HD⟩ : ∃ D, Hid (Fr.good ⟨dst, src, true, vid, prio, typ, data⟩ = D) := ⟨_, Lib.hid rfl⟩
      have HE := Lib.hid (HD.out.symm.trans (HT.out HB.out vid prio))
      go_wp2_with fail
      refine (rgood_any ⟨dst, src, false, 0, 0, typ, data⟩ _).mono ?_
      rw [HU2.out]
      rintro e wb ⟨rfl, bb⟩
      have tb := ta.below bb ta.lt
      have hbb := hba.trans (bb.mono hba.size)
      clear n0 n1 n2 n3 n4 n5 n6 ta ua hba bb
      have m0 : wb.cell? ⟨w2.heap.size, 0, none⟩ = some (.int .i64 dst) := tb.cell 0
      have m1 : wb.cell? ⟨w2.heap.size, 1, none⟩ = some (.int .i64 src) := tb.cell 1
      have m2 : wb.cell? ⟨w2.heap.size, 2, none⟩ = some (.bool true) := tb.cell 2
      have m3 : wb.cell? ⟨w2.heap.size, 3, none⟩ = some (.int .i64 vid) := tb.cell 3
      have m4 : wb.cell? ⟨w2.heap.size, 4, none⟩ = some (.int .i64 prio) := tb.cell 4
      have m5 : wb.cell? ⟨w2.heap.size, 5, none⟩ = some (.int .i64 typ) := tb.cell 5
      have m6 : wb.cell? ⟨w2.heap.size, 6, none⟩ = some (.string data) := tb.cell 6
      go_wp2_with fail
      refine (rgood_any ⟨dst, src, true, vid, prio, typ, data⟩ _).mono ?_
      rw [HD.out]
      rintro e wc ⟨rfl, bc⟩
      have hbc := hbb.trans (bc.mono hbb.size)
      clear m0 m1 m2 m3 m4 m5 m6 tb hbb bc HU HT HU2 HB HD
      by_cases a1 : 0 ≤ vid
      rotate_left
      · obtain rfl : D = false := HE.out.trans (decide_eq_false (by omega))
        have d5 : decide (0 ≤ vid) = false := decide_eq_false a1
        clear a1 HE
        go_wp2
        go_ret
        exact ⟨rfl, hbc⟩
      by_cases a2 : vid ≤ 4094
      rotate_left
      · obtain rfl : D = false := HE.out.trans (decide_eq_false (by omega))
        have d5 : decide (vid ≤ 4094) = false := decide_eq_false a2
        clear a2 HE
        go_wp2
        go_ret
        exact ⟨rfl, hbc⟩
      by_cases a3 : 0 ≤ prio
      rotate_left
      · obtain rfl : D = false := HE.out.trans (decide_eq_false (by omega))
        have d5 : decide (0 ≤ prio) = false := decide_eq_false a3
        clear a3 HE
        go_wp2
        go_ret
        exact ⟨rfl, hbc⟩
      by_cases a4 : prio ≤ 7
      rotate_left
      · obtain rfl : D = false := HE.out.trans (decide_eq_false (by omega))
        have d5 : decide (prio ≤ 7) = false := decide_eq_false a4
        clear a4 HE
        go_wp2
        go_ret
        exact ⟨rfl, hbc⟩
      obtain rfl : D = true := HE.out.trans (decide_eq_true ⟨a1, a2, a3, a4⟩)
      clear HE
      go_wp2
      go_ret
      exact ⟨rfl, hbc⟩

set_option maxRecDepth 100000 in
theorem liftedFrameTags (os : Os) (started : os.Started) (H : Type) (enc : TypeId × Value → H) :
    ReturnsInHanded {} Tryd.checked os 6 .any (fun w args => (Rows.frameTagsSpec.pre enc Tryd.prog Tryd.f6 [] false w args ∧ laidMetH Tryd.prog laidL w) ∧ sizedMet enc Tryd.prog Tryd.f6 (OpenSpec.ofChange Rows.frameTagsSpec) false w args) (Rows.frameTagsSpec.post enc Tryd.prog Tryd.f6 false true false false) := by
  refine returnsInHanded_of_change_and (C := Tryd.checked) (X := fun w _ => laidMetH Tryd.prog laidL w) (fun _ _ _ hh h => h.of_heap hh) own started (by kernel_rfl) Tryd.func6
    (ChangeSpec.witness_shaped (enc := enc) (C := Tryd.checked) (os := os) (X := fun w _ => laidMetH Tryd.prog laidL w) false (World.doorLaid Tryd.prog 400 os) #[.agg #[.int .i64 0, .int .i64 0, .bool false, .int .i64 0, .int .i64 0, .int .i64 0, .string ⟨#[]⟩], .int .i64 0, .int .i64 0] 8 rfl (World.shaped_of_RefB (by kernel_rfl) (by kernel_rfl)) (by kernel_rfl) (by kernel_rfl) (by kernel_rfl) (door_met os _)) ?_
  intro W base args ds gs before hval0 hW _ hsz0 hL _
  have hval : ∀ (j : Nat) t v, Tryd.f6.params[j]? = some t → args[j]? = some v → Value.okWide Tryd.prog W .any base t v := hval0
  have hsz : (DataW.weightsEach Tryd.prog (Tryd.f6.params.toList ++ Rows.frameTagsSpec.plain.varTypes Tryd.prog) (ds ++ gs)).all (· ≤ reachBytes) = true := hsz0
  clear hsz0
  have hW' := hW
  obtain ⟨p, q, hA0, hV, rfl, hfz, hnd⟩ := hW
  have hA : DataW.TrodAll enc Tryd.prog W 0 (fun _ => true) true Tryd.f6.params.toList args.toList ds p := hA0
  rw [Tryd.params6] at hA hval hsz
  obtain ⟨v0, vs0, d0, ds0, p0, q0, hargs, rfl, rfl, h0, r0⟩ := trodAll_cons hA
  obtain ⟨v1, vs1, d1, ds1, p1, q1, rfl, rfl, rfl, h1, r1⟩ := trodAll_cons r0
  obtain ⟨v2, vs2, d2, ds2, p2, q2, rfl, rfl, rfl, h2, r2⟩ := trodAll_cons r1
  obtain ⟨rfl, rfl, rfl⟩ := trodAll_nil r2
  obtain rfl : args = #[v0, v1, v2] := by cases args; simp_all
  obtain ⟨rfl, rfl⟩ := trodVars_none hV
  have k0 := h0
  have lt0 : ∀ x ∈ p0, x.block < W.heap.size := by obtain ⟨m, hm⟩ := k0; exact DataW.trod_lt m _ _ _ hm
  obtain ⟨f0, rfl⟩ := open_fr (hval 0 23 v0 rfl rfl) h0
  obtain ⟨a1, rfl, rfl, rfl, w1⟩ := open_int Tryd.underlying3 (hval 1 3 v1 rfl rfl) h1
  obtain ⟨a2, rfl, rfl, rfl, w2⟩ := open_int Tryd.underlying3 (hval 2 3 v2 rfl rfl) h2
  clear hA0 hval0
  refine (walkFrameTags f0 a1 a2 W (tab_of_laid hL) w1 w2).mono fun e W' ⟨he, bel⟩ => ?_
  subst he
  exact ⟨_, rfl, _, _, _, [], _, [], hW', trodAll_mk1 (shut_bool Tryd.underlying4 _), (trodAll_cons_mk (Below.trod laidOut (by kernel_rfl) (of_decide_eq_true (by kernel_rfl)) k0 bel lt0) (trodAll_cons_mk (shut_int Tryd.underlying3 w1) (trodAll_cons_mk (shut_int Tryd.underlying3 w2) trodAll_mk0))), rfl, bel.frame _, fun h => by cases h⟩

theorem overFrameTags : Rows.frameTagsRow.holds Tryd.pinned (OpenSpec.ofChange Rows.frameTagsSpec) :=
  OpenClaim.holds_of_wide 6 Tryd.f6 rfl rfl rfl rfl rfl rfl rfl ⟨rfl, rfl, rfl, rfl, rfl⟩ rfl rfl rfl rfl rfl (by kernel_rfl) Tryd.func6 (by kernel_rfl)
    (of_decide_eq_true (by kernel_rfl)) (by unfold Func.isWrapper; first | (rw [if_pos (by decide +kernel)]; kernel_rfl) | (rw [if_neg (by decide +kernel)]; exact ⟨rfl, rfl⟩))
    (fun os started H enc _ => liftedFrameTags os started H enc)

theorem frameTags_said : Rows.FrameTagsSaid := overFrameTags

/-- The statement: the card. -/
theorem frameTags_holds : Rows.FrameTagsCardSaid :=
  Claim7.holds_tied_plain_at .later [] [.data] true Rows.frameTagsCard.stood.harness false
    frameTags_said (fun _ h => by cases h) (by kernel_rfl) (fun _ h => by cases h) frameTags_row_tie rfl ⟨rfl, rfl⟩ (by kernel_rfl) rfl
    (fun f fn hf hfn => by
      obtain rfl : f = 6 := Option.some.inj ((show Tryd.prog.funcNamed "kissgate/kissgatelaw05.FrameTags" = some 6 by kernel_rfl).symm.trans hf) |>.symm
      obtain rfl : fn = Tryd.f6 := (Option.some.inj (Tryd.func6.symm.trans hfn)).symm
      exact ⟨by kernel_rfl, fun j t ht => by
        rw [Tryd.params6] at ht
        have hm : t ∈ [23, 3, 3] := by simpa using Array.mem_of_getElem? ht
        have hall : ([23, 3, 3].all fun u => !Tryd.prog.wantsStandIn u) = true := by kernel_rfl
        exact (show Tryd.prog.wantsStandIn t = false by simpa using List.all_eq_true.1 hall t hm)⟩)
    (by kernel_rfl)

#print axioms frameTags_holds
end Go.Proofs.YthbnadohldiifaaDoor
