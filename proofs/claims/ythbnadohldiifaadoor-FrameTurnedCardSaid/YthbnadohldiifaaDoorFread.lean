/- frame.Read: the frame whose bytes a text is, or the error. Its conditions: the table's cells; a text of at most 2^20 bytes. -/
import Derived.Test.YthbnadohldiifaaDoorFparse
import Derived.Test.YthbnadohldiifaaDoorFraw
import Derived.Test.YthbnadohldiifaaDoorStrip
namespace Go.Proofs.YthbnadohldiifaaDoor
open Go.RowKit

/-- What stands ahead of a text's sum. -/
def ahead (s : ByteArray) : ByteArray := str (s.data.toList.take (s.size - 2))
theorem ahead_size (s : ByteArray) : (ahead s).size ≤ s.size := by
  unfold ahead
  rw [str_size, List.length_take]
  omega
/-- Its bytes are a frame's. -/
def Fr.whole (f : Fr) (T : ByteArray) : Bool := f.good && decide ((⟨f.raw.toArray⟩ : ByteArray) = T)

/-- What Read answers where a text's sum is right. -/
def readV (T : ByteArray) : Value := if (Fr.parse T).whole T = true then .tuple #[(Fr.parse T).v, .int .i64 0] else .tuple #[Fr.zero.v, .int .i64 4]

theorem results_pair {fn : Func} {p u : Tmp} (h : fn.results = #[.cell p 23, .tmp u]) (tmps : Array Value) (w : World) (g : Nat) (t : TypeId) (cs : Array Value)
    (hp : tmps.getD p undef = .pointer (some ⟨g, 0, none⟩)) (hg : Blk w g t cs) (hc : cs.size = 7) :
    (results fn tmps).run Tryd.prog w = .ok (.tuple #[.agg cs, tmps.getD u undef]) w := by
  have hl := run_loadVar_row w g t 23 cs (0, 0) _ hg Tryd.underlying23 rfl (by rw [fr_info, hc])
  rw [results_cell_tmp h, hp]
  show ((loadVar 23 ⟨g, 0, none⟩).run Tryd.prog w).andThen _ = _
  rw [hl]
  rfl

theorem zero_new (w : World) : Blk (w.alloc (.cells Fr.zero.cells 23)) w.heap.size 23 Fr.zero.cells := Blk.new w _ _

set_option maxHeartbeats 1000000 in
theorem read_unsealed (s : ByteArray) (w : World) (hs : s.size ≤ 1048576) (ht : Tab w) (h : s.size < 2 ∨ Crc.of s.data.toList ≠ 0) :
    Calls Tryd.prog 12 #[.string s] w fun e w' => e = .returned (.tuple #[Fr.zero.v, .int .i64 4]) ∧ Below w.heap.size w w' := by
  have hstrip : ∀ w0 : World, Tab w0 → Calls Tryd.prog 24 #[.string s] w0 fun e w' => e = .returned (.tuple #[.string ⟨#[]⟩, .bool false]) ∧ Below w0.heap.size w0 w' := by
    intro w0 h0
    by_cases h2 : s.size < 2
    · exact strip_short s w0 h2
    · exact strip_long s w0 (by omega) hs h0 (h.resolve_left h2)
  have hstrip := Lib.hid hstrip
  have ht0 := ht.alloc (.cells Fr.zero.cells 23)
  have hb0 := bel_alloc w (.cells Fr.zero.cells 23)
  have hz := zero_new w
  clear h
  go_enter Tryd.func12, Tryd.ntmps12
  go_wp2_with fail
  refine (hstrip.out _ ht0).mono ?_
  rintro e w1 ⟨rfl, b1⟩
  have z1 := hz.below b1 hz.lt
  have hb1 := hb0.trans (b1.mono hb0.size)
  have x0 := z1.frozen 0
  have x1 := z1.frozen 1
  have x2 := z1.frozen 2
  have x3 := z1.frozen 3
  have x4 := z1.frozen 4
  have x5 := z1.frozen 5
  have x6 := z1.frozen 6
  have y0 : w1.cell? ⟨w.heap.size, 0, none⟩ = some (.int .i64 0) := z1.cell 0
  have y1 : w1.cell? ⟨w.heap.size, 1, none⟩ = some (.int .i64 0) := z1.cell 1
  have y2 : w1.cell? ⟨w.heap.size, 2, none⟩ = some (.bool false) := z1.cell 2
  have y3 : w1.cell? ⟨w.heap.size, 3, none⟩ = some (.int .i64 0) := z1.cell 3
  have y4 : w1.cell? ⟨w.heap.size, 4, none⟩ = some (.int .i64 0) := z1.cell 4
  have y5 : w1.cell? ⟨w.heap.size, 5, none⟩ = some (.int .i64 0) := z1.cell 5
  have y6 : w1.cell? ⟨w.heap.size, 6, none⟩ = some (.string ⟨#[]⟩) := z1.cell 6
  have hres := ((((((z1.set_ 0 (.int .i64 0)).set_ 1 (.int .i64 0)).set_ 2 (.bool false)).set_ 3 (.int .i64 0)).set_ 4 (.int .i64 0)).set_ 5 (.int .i64 0)).set_ 6 (.string ⟨#[]⟩)
  have hbel := ((((((hb1.setCell (p := ⟨w.heap.size, 0, none⟩) (Nat.le_refl _) (.int .i64 0)).setCell (p := ⟨w.heap.size, 1, none⟩) (Nat.le_refl _) (.int .i64 0)).setCell (p := ⟨w.heap.size, 2, none⟩) (Nat.le_refl _) (.bool false)).setCell (p := ⟨w.heap.size, 3, none⟩) (Nat.le_refl _) (.int .i64 0)).setCell (p := ⟨w.heap.size, 4, none⟩) (Nat.le_refl _) (.int .i64 0)).setCell (p := ⟨w.heap.size, 5, none⟩) (Nat.le_refl _) (.int .i64 0)).setCell (p := ⟨w.heap.size, 6, none⟩) (Nat.le_refl _) (.string ⟨#[]⟩)
  go_wp2
  exact bodyPost_ret (results_pair rfl _ _ w.heap.size 23 _ rfl hres rfl) rfl ⟨rfl, hbel⟩

set_option maxHeartbeats 2000000 in
theorem read_sealed (s : ByteArray) (w : World) (hs : s.size ≤ 1048576) (ht : Tab w) (h2 : 2 ≤ s.size) (h0 : Crc.of s.data.toList = 0) :
    Calls Tryd.prog 12 #[.string s] w fun e w' => e = .returned (readV (ahead s)) ∧ Below w.heap.size w w' := by
  have hstrip := Lib.hid (fun (w0 : World) (h : Tab w0) => strip_good s w0 h2 hs h h0)
  have ht0 := ht.alloc (.cells Fr.zero.cells 23)
  have hb0 := bel_alloc w (.cells Fr.zero.cells 23)
  have hz := zero_new w
  obtain ⟨T, hT⟩ : ∃ T, Hid (ahead s = T) := ⟨_, Lib.hid rfl⟩
  have hT' : Hid (str (s.data.toList.take (s.size - 2)) = T) := hT
  have hTs : T.size ≤ 1048576 := by rw [← hT.out]; have := ahead_size s; omega
  rw [hT.out]
  clear h0 h2
  obtain ⟨G, hG⟩ : ∃ G, Hid (Fr.parse T = G) := ⟨_, Lib.hid rfl⟩
  unfold readV
  rw [hG.out]
  obtain ⟨dst, src, tagged, vid, prio, typ, data⟩ := G
  obtain ⟨b, HB⟩ : ∃ b, Hid (Fr.good ⟨dst, src, tagged, vid, prio, typ, data⟩ = b) := ⟨_, Lib.hid rfl⟩
  obtain ⟨R, HR⟩ : ∃ R : ByteArray, Hid (⟨(Fr.raw ⟨dst, src, tagged, vid, prio, typ, data⟩).toArray⟩ = R) := ⟨_, Lib.hid rfl⟩
  have HQ : Fr.whole ⟨dst, src, tagged, vid, prio, typ, data⟩ T = (b && decide (R = T)) := by rw [← HB.out, ← HR.out]; rfl
  rw [HQ]
  clear HQ
  cases b
  · rw [if_neg (by simp)]
    clear HR
    go_enter Tryd.func12, Tryd.ntmps12
    go_wp2_with fail
    refine (hstrip.out _ ht0).mono ?_
    rw [hT'.out]
    rintro e w1 ⟨rfl, b1⟩
    have z1 := hz.below b1 hz.lt
    have hb1 := hb0.trans (b1.mono hb0.size)
    go_wp2_with fail
    refine (parse_any T _ hTs).mono ?_
    rw [hG.out]
    simp only [Fr.v, Fr.cells]
    rintro e w2 ⟨rfl, b2⟩
    have z2 := z1.below b2 z1.lt
    have hb2 := hb1.trans (b2.mono hb1.size)
    have k2 := Blk.new w2 23 (Fr.cells ⟨dst, src, tagged, vid, prio, typ, data⟩)
    have z2' := z2.alloc (.cells (Fr.cells ⟨dst, src, tagged, vid, prio, typ, data⟩) 23)
    have hb2' := hb2.alloc hb2.size (.cells (Fr.cells ⟨dst, src, tagged, vid, prio, typ, data⟩) 23)
    simp only [Fr.cells] at k2 z2' hb2'
    go_wp2_with fail
    refine (fgood_any ⟨dst, src, tagged, vid, prio, typ, data⟩ _).mono ?_
    rw [HB.out]
    rintro e w3 ⟨rfl, b3⟩
    have k3 := k2.below b3 k2.lt
    have z3 := z2'.below b3 z2'.lt
    have hb3 := hb2'.trans (b3.mono hb2'.size)
    clear z1 z2 z2' k2 hb0 hb1 hb2 hb2' hz ht0 b1 b2 b3
    have x0 := z3.frozen 0
    have x1 := z3.frozen 1
    have x2 := z3.frozen 2
    have x3 := z3.frozen 3
    have x4 := z3.frozen 4
    have x5 := z3.frozen 5
    have x6 := z3.frozen 6
    have y0 : w3.cell? ⟨w.heap.size, 0, none⟩ = some (.int .i64 0) := z3.cell 0
    have y1 : w3.cell? ⟨w.heap.size, 1, none⟩ = some (.int .i64 0) := z3.cell 1
    have y2 : w3.cell? ⟨w.heap.size, 2, none⟩ = some (.bool false) := z3.cell 2
    have y3 : w3.cell? ⟨w.heap.size, 3, none⟩ = some (.int .i64 0) := z3.cell 3
    have y4 : w3.cell? ⟨w.heap.size, 4, none⟩ = some (.int .i64 0) := z3.cell 4
    have y5 : w3.cell? ⟨w.heap.size, 5, none⟩ = some (.int .i64 0) := z3.cell 5
    have y6 : w3.cell? ⟨w.heap.size, 6, none⟩ = some (.string ⟨#[]⟩) := z3.cell 6
    have hres := (((((((z3.set_ 0 (.int .i64 0)).set_ 1 (.int .i64 0)).set_ 2 (.bool false)).set_ 3 (.int .i64 0)).set_ 4 (.int .i64 0)).set_ 5 (.int .i64 0)).set_ 6 (.string ⟨#[]⟩))
    have hbel := (((((((hb3.setCell (p := ⟨w.heap.size, 0, none⟩) (Nat.le_refl _) (.int .i64 0)).setCell (p := ⟨w.heap.size, 1, none⟩) (Nat.le_refl _) (.int .i64 0)).setCell (p := ⟨w.heap.size, 2, none⟩) (Nat.le_refl _) (.bool false)).setCell (p := ⟨w.heap.size, 3, none⟩) (Nat.le_refl _) (.int .i64 0)).setCell (p := ⟨w.heap.size, 4, none⟩) (Nat.le_refl _) (.int .i64 0)).setCell (p := ⟨w.heap.size, 5, none⟩) (Nat.le_refl _) (.int .i64 0)).setCell (p := ⟨w.heap.size, 6, none⟩) (Nat.le_refl _) (.string ⟨#[]⟩))
    go_wp2
    exact bodyPost_ret (results_pair rfl _ _ w.heap.size 23 _ rfl hres rfl) rfl ⟨rfl, hbel⟩
  · by_cases hq : R = T
    · rw [if_pos (by simpa using hq)]
      have HR2 := Lib.hid (HR.out.trans hq)
      clear hq HR
      go_enter Tryd.func12, Tryd.ntmps12
      go_wp2_with fail
      refine (hstrip.out _ ht0).mono ?_
      rw [hT'.out]
      rintro e w1 ⟨rfl, b1⟩
      have z1 := hz.below b1 hz.lt
      have hb1 := hb0.trans (b1.mono hb0.size)
      go_wp2_with fail
      refine (parse_any T _ hTs).mono ?_
      rw [hG.out]
      simp only [Fr.v, Fr.cells]
      rintro e w2 ⟨rfl, b2⟩
      have z2 := z1.below b2 z1.lt
      have hb2 := hb1.trans (b2.mono hb1.size)
      have k2 := Blk.new w2 23 (Fr.cells ⟨dst, src, tagged, vid, prio, typ, data⟩)
      have z2' := z2.alloc (.cells (Fr.cells ⟨dst, src, tagged, vid, prio, typ, data⟩) 23)
      have hb2' := hb2.alloc hb2.size (.cells (Fr.cells ⟨dst, src, tagged, vid, prio, typ, data⟩) 23)
      simp only [Fr.cells] at k2 z2' hb2'
      go_wp2_with fail
      refine (fgood_any ⟨dst, src, tagged, vid, prio, typ, data⟩ _).mono ?_
      rw [HB.out]
      rintro e w3 ⟨rfl, b3⟩
      have k3 := k2.below b3 k2.lt
      have z3 := z2'.below b3 z2'.lt
      have hb3 := hb2'.trans (b3.mono hb2'.size)
      clear z1 z2 z2' k2 hb0 hb1 hb2 hb2' hz ht0 b1 b2 b3
      have l0 : w3.cell? ⟨w2.heap.size, 0, none⟩ = some (.int .i64 dst) := k3.cell 0
      have l1 : w3.cell? ⟨w2.heap.size, 1, none⟩ = some (.int .i64 src) := k3.cell 1
      have l2 : w3.cell? ⟨w2.heap.size, 2, none⟩ = some (.bool tagged) := k3.cell 2
      have l3 : w3.cell? ⟨w2.heap.size, 3, none⟩ = some (.int .i64 vid) := k3.cell 3
      have l4 : w3.cell? ⟨w2.heap.size, 4, none⟩ = some (.int .i64 prio) := k3.cell 4
      have l5 : w3.cell? ⟨w2.heap.size, 5, none⟩ = some (.int .i64 typ) := k3.cell 5
      have l6 : w3.cell? ⟨w2.heap.size, 6, none⟩ = some (.string data) := k3.cell 6
      go_wp2_with fail
      refine (unsealed_any ⟨dst, src, tagged, vid, prio, typ, data⟩ _ HB.out).mono ?_
      rw [HR2.out]
      rintro e w4 ⟨rfl, b4⟩
      have k4 := k3.below b4 k3.lt
      have z4 := z3.below b4 z3.lt
      have hb4 := hb3.trans (b4.mono hb3.size)
      clear l0 l1 l2 l3 l4 l5 l6 k3 z3 hb3 b4
      have l0 : w4.cell? ⟨w2.heap.size, 0, none⟩ = some (.int .i64 dst) := k4.cell 0
      have l1 : w4.cell? ⟨w2.heap.size, 1, none⟩ = some (.int .i64 src) := k4.cell 1
      have l2 : w4.cell? ⟨w2.heap.size, 2, none⟩ = some (.bool tagged) := k4.cell 2
      have l3 : w4.cell? ⟨w2.heap.size, 3, none⟩ = some (.int .i64 vid) := k4.cell 3
      have l4 : w4.cell? ⟨w2.heap.size, 4, none⟩ = some (.int .i64 prio) := k4.cell 4
      have l5 : w4.cell? ⟨w2.heap.size, 5, none⟩ = some (.int .i64 typ) := k4.cell 5
      have l6 : w4.cell? ⟨w2.heap.size, 6, none⟩ = some (.string data) := k4.cell 6
      have x0 := z4.frozen 0
      have x1 := z4.frozen 1
      have x2 := z4.frozen 2
      have x3 := z4.frozen 3
      have x4 := z4.frozen 4
      have x5 := z4.frozen 5
      have x6 := z4.frozen 6
      have y0 : w4.cell? ⟨w.heap.size, 0, none⟩ = some (.int .i64 0) := z4.cell 0
      have y1 : w4.cell? ⟨w.heap.size, 1, none⟩ = some (.int .i64 0) := z4.cell 1
      have y2 : w4.cell? ⟨w.heap.size, 2, none⟩ = some (.bool false) := z4.cell 2
      have y3 : w4.cell? ⟨w.heap.size, 3, none⟩ = some (.int .i64 0) := z4.cell 3
      have y4 : w4.cell? ⟨w.heap.size, 4, none⟩ = some (.int .i64 0) := z4.cell 4
      have y5 : w4.cell? ⟨w.heap.size, 5, none⟩ = some (.int .i64 0) := z4.cell 5
      have y6 : w4.cell? ⟨w.heap.size, 6, none⟩ = some (.string ⟨#[]⟩) := z4.cell 6
      have hres := (((((((z4.set_ 0 (.int .i64 dst)).set_ 1 (.int .i64 src)).set_ 2 (.bool tagged)).set_ 3 (.int .i64 vid)).set_ 4 (.int .i64 prio)).set_ 5 (.int .i64 typ)).set_ 6 (.string data))
      have hbel := (((((((hb4.setCell (p := ⟨w.heap.size, 0, none⟩) (Nat.le_refl _) (.int .i64 dst)).setCell (p := ⟨w.heap.size, 1, none⟩) (Nat.le_refl _) (.int .i64 src)).setCell (p := ⟨w.heap.size, 2, none⟩) (Nat.le_refl _) (.bool tagged)).setCell (p := ⟨w.heap.size, 3, none⟩) (Nat.le_refl _) (.int .i64 vid)).setCell (p := ⟨w.heap.size, 4, none⟩) (Nat.le_refl _) (.int .i64 prio)).setCell (p := ⟨w.heap.size, 5, none⟩) (Nat.le_refl _) (.int .i64 typ)).setCell (p := ⟨w.heap.size, 6, none⟩) (Nat.le_refl _) (.string data))
      go_wp2
      exact bodyPost_ret (results_pair rfl _ _ w.heap.size 23 _ rfl hres rfl) rfl ⟨rfl, hbel⟩
    · rw [if_neg (by simpa using hq)]
      have hun := unlike_lists hq
      clear hq
      go_enter Tryd.func12, Tryd.ntmps12
      go_wp2_with fail
      refine (hstrip.out _ ht0).mono ?_
      rw [hT'.out]
      rintro e w1 ⟨rfl, b1⟩
      have z1 := hz.below b1 hz.lt
      have hb1 := hb0.trans (b1.mono hb0.size)
      go_wp2_with fail
      refine (parse_any T _ hTs).mono ?_
      rw [hG.out]
      simp only [Fr.v, Fr.cells]
      rintro e w2 ⟨rfl, b2⟩
      have z2 := z1.below b2 z1.lt
      have hb2 := hb1.trans (b2.mono hb1.size)
      have k2 := Blk.new w2 23 (Fr.cells ⟨dst, src, tagged, vid, prio, typ, data⟩)
      have z2' := z2.alloc (.cells (Fr.cells ⟨dst, src, tagged, vid, prio, typ, data⟩) 23)
      have hb2' := hb2.alloc hb2.size (.cells (Fr.cells ⟨dst, src, tagged, vid, prio, typ, data⟩) 23)
      simp only [Fr.cells] at k2 z2' hb2'
      go_wp2_with fail
      refine (fgood_any ⟨dst, src, tagged, vid, prio, typ, data⟩ _).mono ?_
      rw [HB.out]
      rintro e w3 ⟨rfl, b3⟩
      have k3 := k2.below b3 k2.lt
      have z3 := z2'.below b3 z2'.lt
      have hb3 := hb2'.trans (b3.mono hb2'.size)
      clear z1 z2 z2' k2 hb0 hb1 hb2 hb2' hz ht0 b1 b2 b3
      have l0 : w3.cell? ⟨w2.heap.size, 0, none⟩ = some (.int .i64 dst) := k3.cell 0
      have l1 : w3.cell? ⟨w2.heap.size, 1, none⟩ = some (.int .i64 src) := k3.cell 1
      have l2 : w3.cell? ⟨w2.heap.size, 2, none⟩ = some (.bool tagged) := k3.cell 2
      have l3 : w3.cell? ⟨w2.heap.size, 3, none⟩ = some (.int .i64 vid) := k3.cell 3
      have l4 : w3.cell? ⟨w2.heap.size, 4, none⟩ = some (.int .i64 prio) := k3.cell 4
      have l5 : w3.cell? ⟨w2.heap.size, 5, none⟩ = some (.int .i64 typ) := k3.cell 5
      have l6 : w3.cell? ⟨w2.heap.size, 6, none⟩ = some (.string data) := k3.cell 6
      go_wp2_with fail
      refine (unsealed_any ⟨dst, src, tagged, vid, prio, typ, data⟩ _ HB.out).mono ?_
      rw [HR.out]
      rintro e w4 ⟨rfl, b4⟩
      have z4 := z3.below b4 z3.lt
      have hb4 := hb3.trans (b4.mono hb3.size)
      clear l0 l1 l2 l3 l4 l5 l6 k3 z3 hb3 b4
      have x0 := z4.frozen 0
      have x1 := z4.frozen 1
      have x2 := z4.frozen 2
      have x3 := z4.frozen 3
      have x4 := z4.frozen 4
      have x5 := z4.frozen 5
      have x6 := z4.frozen 6
      have y0 : w4.cell? ⟨w.heap.size, 0, none⟩ = some (.int .i64 0) := z4.cell 0
      have y1 : w4.cell? ⟨w.heap.size, 1, none⟩ = some (.int .i64 0) := z4.cell 1
      have y2 : w4.cell? ⟨w.heap.size, 2, none⟩ = some (.bool false) := z4.cell 2
      have y3 : w4.cell? ⟨w.heap.size, 3, none⟩ = some (.int .i64 0) := z4.cell 3
      have y4 : w4.cell? ⟨w.heap.size, 4, none⟩ = some (.int .i64 0) := z4.cell 4
      have y5 : w4.cell? ⟨w.heap.size, 5, none⟩ = some (.int .i64 0) := z4.cell 5
      have y6 : w4.cell? ⟨w.heap.size, 6, none⟩ = some (.string ⟨#[]⟩) := z4.cell 6
      have hres := (((((((z4.set_ 0 (.int .i64 0)).set_ 1 (.int .i64 0)).set_ 2 (.bool false)).set_ 3 (.int .i64 0)).set_ 4 (.int .i64 0)).set_ 5 (.int .i64 0)).set_ 6 (.string ⟨#[]⟩))
      have hbel := (((((((hb4.setCell (p := ⟨w.heap.size, 0, none⟩) (Nat.le_refl _) (.int .i64 0)).setCell (p := ⟨w.heap.size, 1, none⟩) (Nat.le_refl _) (.int .i64 0)).setCell (p := ⟨w.heap.size, 2, none⟩) (Nat.le_refl _) (.bool false)).setCell (p := ⟨w.heap.size, 3, none⟩) (Nat.le_refl _) (.int .i64 0)).setCell (p := ⟨w.heap.size, 4, none⟩) (Nat.le_refl _) (.int .i64 0)).setCell (p := ⟨w.heap.size, 5, none⟩) (Nat.le_refl _) (.int .i64 0)).setCell (p := ⟨w.heap.size, 6, none⟩) (Nat.le_refl _) (.string ⟨#[]⟩))
      go_wp2
      exact bodyPost_ret (results_pair rfl _ _ w.heap.size 23 _ rfl hres rfl) rfl ⟨rfl, hbel⟩
end Go.Proofs.YthbnadohldiifaaDoor
