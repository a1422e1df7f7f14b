/- bpdu.Bytes of what can't be, and bpdu.Read. Its condition: a text of at most 2^20 bytes; for Bytes: each number of the message is an int. -/
import Derived.Test.YtkghaemnjfiliaaBpBytes
import Derived.Test.YtkghaemnjfiliaaBpParse
import Derived.Laws.Rows
import Derived.Laws.ResultCell
namespace Go.Proofs.Ytkghaemnjfiliaa
open Go.RowKit

set_option maxHeartbeats 1000000 in
theorem bbytes_bad (b : Bp) (hi : b.int) (hg : b.good = false) (w : World) :
    Calls Try.prog 10 #[b.v] w fun e w' => e = .returned (.tuple #[.string ⟨#[]⟩, .int .i64 1]) ∧ Below w.heap.size w w' := by
  have HGood : ∀ w, Calls Try.prog 11 #[b.v] w fun e w' => e = .returned (.bool false) ∧ Below w.heap.size w w' := by intro w; have := bgood_any b hi w; rw [hg] at this; exact this
  have hb0 := bel_alloc w (.cells b.cells 25)
  clear hi hg
  obtain ⟨root, cost, bridge, port, age, role, change⟩ := b
  simp only [Bp.v, Bp.cells] at HGood hb0 ⊢
  go_enter Try.func10, Try.ntmps10
  go_wp2_with fail
  refine (HGood _).mono ?_
  rintro e w1 ⟨rfl, b1⟩
  go_wp2_with fail
  go_ret2
  exact ⟨rfl, hb0.trans (b1.mono (by simp))⟩
theorem idOf_int (r m : Int) : InI (idOf r m) := by
  rcases idOf_range r m with h | ⟨_, h0, h1, h2, h3, h⟩
  · rw [h]; exact ⟨by omega, by omega⟩
  · rw [h]; exact ⟨by omega, by omega⟩
theorem get_int (r : RdS) (n : Int) (k : Nat) (hk : k ≤ 7) (h : n = k) : 0 ≤ r.get n ∧ r.get n < 72057594037927937 := by
  have h1 := get_lt r n k h
  have h2 : 256 ^ k ≤ 256 ^ 7 := Nat.pow_le_pow_right (by omega) hk
  have h3 : (256 : Nat) ^ 7 = 72057594037927936 := by decide
  omega
theorem parse_int (s : ByteArray) : (Bp.parse s).int := by
  simp only [Bp.parse]
  refine ⟨idOf_int _ _, ?_, idOf_int _ _, ?_, ?_, ?_⟩
  · have := get_int (RdS.take (RdS.take (RdS.take (RdS.take ⟨s, 0, false⟩ 4) 1) 2) 6) 4 4 (by decide) rfl
    exact ⟨by simp only; omega, by simp only; omega⟩
  · have := get_int (RdS.take (RdS.take (RdS.take (RdS.take (RdS.take (RdS.take (RdS.take ⟨s, 0, false⟩ 4) 1) 2) 6) 4) 2) 6) 2 2 (by decide) rfl
    exact ⟨by simp only; omega, by simp only; omega⟩
  · have := get_int (RdS.take (RdS.take (RdS.take (RdS.take (RdS.take (RdS.take (RdS.take (RdS.take ⟨s, 0, false⟩ 4) 1) 2) 6) 4) 2) 6) 2) 2 2 (by decide) rfl
    exact ⟨by simp only; omega, by simp only; omega⟩
  · have := get_int (RdS.take ⟨s, 0, false⟩ 4) 1 1 (by decide) rfl
    exact ⟨by simp only; omega, by simp only; omega⟩
/-- Its bytes are that text. -/
def Bp.whole (b : Bp) (s : ByteArray) : Bool := b.good && decide ((⟨b.raw.toArray⟩ : ByteArray) = s)
/-- What Read answers. -/
def breadV (s : ByteArray) : Value := if (Bp.parse s).whole s = true then .tuple #[(Bp.parse s).v, .int .i64 0] else .tuple #[Bp.zero.v, .int .i64 4]
theorem bresults_pair {fn : Func} {p u : Tmp} (h : fn.results = #[.cell p 25, .tmp u]) (tmps : Array Value) (w : World) (g : Nat) (t : TypeId) (cs : Array Value)
    (hp : tmps.getD p undef = .pointer (some ⟨g, 0, none⟩)) (hg : Blk w g t cs) (hc : cs.size = 7) :
    (results fn tmps).run Try.prog w = .ok (.tuple #[.agg cs, tmps.getD u undef]) w := by
  have hl := run_loadVar_row w g t 25 cs (0, 0) _ hg Try.underlying25 rfl (by rw [bp_info, hc])
  rw [results_cell_tmp h, hp]
  show ((loadVar 25 ⟨g, 0, none⟩).run Try.prog w).andThen _ = _
  rw [hl]
  rfl
theorem bzero_new (w : World) : Blk (w.alloc (.cells Bp.zero.cells 25)) w.heap.size 25 Bp.zero.cells := Blk.new w _ _

set_option maxHeartbeats 4000000 in
theorem bread_any (s : ByteArray) (w : World) (hs : s.size ≤ 1048576) :
    Calls Try.prog 12 #[.string s] w fun e w' => e = .returned (breadV s) ∧ Below w.heap.size w w' := by
  have hv : breadV s = if (Bp.parse s).whole s = true then .tuple #[(Bp.parse s).v, .int .i64 0] else .tuple #[Bp.zero.v, .int .i64 4] := rfl
  have hi := parse_int s
  obtain ⟨b, hb⟩ : ∃ b, Bp.parse s = b := ⟨_, rfl⟩
  rw [hb] at hv hi
  have HP : ∀ w, Calls Try.prog 24 #[.string s] w fun e w' => e = .returned b.v ∧ Below w.heap.size w w' := by intro w; have := bparse_any s w hs; rw [hb] at this; exact this
  have hb0 := bel_alloc w (.cells Bp.zero.cells 25)
  have hz := bzero_new w
  clear hb
  cases hg : b.good
  · have hV := Lib.hid (show Ending.returned (.tuple #[Bp.zero.v, .int .i64 4]) = Ending.returned (breadV s) by rw [hv, if_neg (by simp [Bp.whole, hg])])
    have HB := fun w => bbytes_bad b hi hg w
    clear hv hi hg
    obtain ⟨root, cost, bridge, port, age, role, change⟩ := b
    simp only [Bp.v, Bp.cells] at HP HB
    go_enter Try.func12, Try.ntmps12
    go_wp2_with fail
    refine (HP _).mono ?_
    rintro e w1 ⟨rfl, b1⟩
    have z1 := hz.below b1 hz.lt
    have hb1 := hb0.trans (b1.mono hb0.size)
    clear b1 hz hb0 HP
    go_wp2_with fail
    refine (HB _).mono ?_
    rintro e w2 ⟨rfl, b2⟩
    have z2 := Blk.below (z1.alloc _) b2 (by have := z1.lt; simp; omega)
    have hb2 := (hb1.alloc hb1.size _).trans (b2.mono (by have := hb1.size; simp; omega))
    clear b2 z1 hb1 HB
    have y0 : w2.cell? ⟨w.heap.size, 0, none⟩ = some (.int .i64 0) := z2.cell 0
    have y1 : w2.cell? ⟨w.heap.size, 1, none⟩ = some (.int .i64 0) := z2.cell 1
    have y2 : w2.cell? ⟨w.heap.size, 2, none⟩ = some (.int .i64 0) := z2.cell 2
    have y3 : w2.cell? ⟨w.heap.size, 3, none⟩ = some (.int .i64 0) := z2.cell 3
    have y4 : w2.cell? ⟨w.heap.size, 4, none⟩ = some (.int .i64 0) := z2.cell 4
    have y5 : w2.cell? ⟨w.heap.size, 5, none⟩ = some (.int .i64 0) := z2.cell 5
    have y6 : w2.cell? ⟨w.heap.size, 6, none⟩ = some (.bool false) := z2.cell 6
    have x0 := z2.frozen 0
    have x1 := z2.frozen 1
    have x2 := z2.frozen 2
    have x3 := z2.frozen 3
    have x4 := z2.frozen 4
    have x5 := z2.frozen 5
    have x6 := z2.frozen 6
    have hres := (((((((z2.set_ 0 (.int .i64 0)).set_ 1 (.int .i64 0)).set_ 2 (.int .i64 0)).set_ 3 (.int .i64 0)).set_ 4 (.int .i64 0)).set_ 5 (.int .i64 0)).set_ 6 (.bool false))
    have hbel := (((((((hb2.setCell (p := ⟨w.heap.size, 0, none⟩) (Nat.le_refl _) (.int .i64 0)).setCell (p := ⟨w.heap.size, 1, none⟩) (Nat.le_refl _) (.int .i64 0)).setCell (p := ⟨w.heap.size, 2, none⟩) (Nat.le_refl _) (.int .i64 0)).setCell (p := ⟨w.heap.size, 3, none⟩) (Nat.le_refl _) (.int .i64 0)).setCell (p := ⟨w.heap.size, 4, none⟩) (Nat.le_refl _) (.int .i64 0)).setCell (p := ⟨w.heap.size, 5, none⟩) (Nat.le_refl _) (.int .i64 0)).setCell (p := ⟨w.heap.size, 6, none⟩) (Nat.le_refl _) (.bool false))
    clear z2 hb2
    go_wp2
    refine bodyPost_ret (bresults_pair rfl _ _ w.heap.size 25 _ rfl hres rfl) rfl ⟨?_, hbel⟩
    rw [← hV.out]
    rfl
  · have HB := fun w => bbytes_good b hi hg w
    clear hi
    obtain ⟨T, hT⟩ : ∃ T : ByteArray, (⟨b.raw.toArray⟩ : ByteArray) = T := ⟨_, rfl⟩
    rw [hT] at HB
    by_cases hts : T = s
    · have hV := Lib.hid (show Ending.returned (.tuple #[b.v, .int .i64 0]) = Ending.returned (breadV s) by rw [hv, if_pos (by simp [Bp.whole, hg, hT, hts])])
      subst hts
      clear hv hg hT
      obtain ⟨root, cost, bridge, port, age, role, change⟩ := b
      simp only [Bp.v, Bp.cells] at HP HB
      go_enter Try.func12, Try.ntmps12
      go_wp2_with fail
      refine (HP _).mono ?_
      rintro e w1 ⟨rfl, b1⟩
      have z1 := hz.below b1 hz.lt
      have hb1 := hb0.trans (b1.mono hb0.size)
      clear b1 hz hb0 HP
      go_wp2_with fail
      refine (HB _).mono ?_
      rintro e w2 ⟨rfl, b2⟩
      have z2 := Blk.below (z1.alloc _) b2 (by have := z1.lt; simp; omega)
      have hb2 := (hb1.alloc hb1.size _).trans (b2.mono (by have := hb1.size; simp; omega))
      have zb := Blk.below (Blk.new w1 25 #[.int .i64 root, .int .i64 cost, .int .i64 bridge, .int .i64 port, .int .i64 age, .int .i64 role, .bool change]) b2 (by simp)
      have q0 : w2.cell? ⟨w1.heap.size, 0, none⟩ = some (.int .i64 root) := zb.cell 0
      have q1 : w2.cell? ⟨w1.heap.size, 1, none⟩ = some (.int .i64 cost) := zb.cell 1
      have q2 : w2.cell? ⟨w1.heap.size, 2, none⟩ = some (.int .i64 bridge) := zb.cell 2
      have q3 : w2.cell? ⟨w1.heap.size, 3, none⟩ = some (.int .i64 port) := zb.cell 3
      have q4 : w2.cell? ⟨w1.heap.size, 4, none⟩ = some (.int .i64 age) := zb.cell 4
      have q5 : w2.cell? ⟨w1.heap.size, 5, none⟩ = some (.int .i64 role) := zb.cell 5
      have q6 : w2.cell? ⟨w1.heap.size, 6, none⟩ = some (.bool change) := zb.cell 6
      clear zb
      clear b2 z1 hb1 HB
      have y0 : w2.cell? ⟨w.heap.size, 0, none⟩ = some (.int .i64 0) := z2.cell 0
      have y1 : w2.cell? ⟨w.heap.size, 1, none⟩ = some (.int .i64 0) := z2.cell 1
      have y2 : w2.cell? ⟨w.heap.size, 2, none⟩ = some (.int .i64 0) := z2.cell 2
      have y3 : w2.cell? ⟨w.heap.size, 3, none⟩ = some (.int .i64 0) := z2.cell 3
      have y4 : w2.cell? ⟨w.heap.size, 4, none⟩ = some (.int .i64 0) := z2.cell 4
      have y5 : w2.cell? ⟨w.heap.size, 5, none⟩ = some (.int .i64 0) := z2.cell 5
      have y6 : w2.cell? ⟨w.heap.size, 6, none⟩ = some (.bool false) := z2.cell 6
      have x0 := z2.frozen 0
      have x1 := z2.frozen 1
      have x2 := z2.frozen 2
      have x3 := z2.frozen 3
      have x4 := z2.frozen 4
      have x5 := z2.frozen 5
      have x6 := z2.frozen 6
      have hres := (((((((z2.set_ 0 (.int .i64 root)).set_ 1 (.int .i64 cost)).set_ 2 (.int .i64 bridge)).set_ 3 (.int .i64 port)).set_ 4 (.int .i64 age)).set_ 5 (.int .i64 role)).set_ 6 (.bool change))
      have hbel := (((((((hb2.setCell (p := ⟨w.heap.size, 0, none⟩) (Nat.le_refl _) (.int .i64 root)).setCell (p := ⟨w.heap.size, 1, none⟩) (Nat.le_refl _) (.int .i64 cost)).setCell (p := ⟨w.heap.size, 2, none⟩) (Nat.le_refl _) (.int .i64 bridge)).setCell (p := ⟨w.heap.size, 3, none⟩) (Nat.le_refl _) (.int .i64 port)).setCell (p := ⟨w.heap.size, 4, none⟩) (Nat.le_refl _) (.int .i64 age)).setCell (p := ⟨w.heap.size, 5, none⟩) (Nat.le_refl _) (.int .i64 role)).setCell (p := ⟨w.heap.size, 6, none⟩) (Nat.le_refl _) (.bool change))
      clear z2 hb2
      go_wp2
      refine bodyPost_ret (bresults_pair rfl _ _ w.heap.size 25 _ rfl hres rfl) rfl ⟨?_, hbel⟩
      rw [← hV.out]
      rfl
    · have hV := Lib.hid (show Ending.returned (.tuple #[Bp.zero.v, .int .i64 4]) = Ending.returned (breadV s) by rw [hv, if_neg (by simp [Bp.whole, hg, hT, hts])])
      have d2 : (T.toList == s.toList) = false := by simpa [ByteArray.toList_eq] using fun h => hts (ByteArray.ext (Array.ext' h))
      clear hv hg hT hts
      obtain ⟨root, cost, bridge, port, age, role, change⟩ := b
      simp only [Bp.v, Bp.cells] at HP HB
      go_enter Try.func12, Try.ntmps12
      go_wp2_with fail
      refine (HP _).mono ?_
      rintro e w1 ⟨rfl, b1⟩
      have z1 := hz.below b1 hz.lt
      have hb1 := hb0.trans (b1.mono hb0.size)
      clear b1 hz hb0 HP
      go_wp2_with fail
      refine (HB _).mono ?_
      rintro e w2 ⟨rfl, b2⟩
      have z2 := Blk.below (z1.alloc _) b2 (by have := z1.lt; simp; omega)
      have hb2 := (hb1.alloc hb1.size _).trans (b2.mono (by have := hb1.size; simp; omega))
      clear b2 z1 hb1 HB
      have y0 : w2.cell? ⟨w.heap.size, 0, none⟩ = some (.int .i64 0) := z2.cell 0
      have y1 : w2.cell? ⟨w.heap.size, 1, none⟩ = some (.int .i64 0) := z2.cell 1
      have y2 : w2.cell? ⟨w.heap.size, 2, none⟩ = some (.int .i64 0) := z2.cell 2
      have y3 : w2.cell? ⟨w.heap.size, 3, none⟩ = some (.int .i64 0) := z2.cell 3
      have y4 : w2.cell? ⟨w.heap.size, 4, none⟩ = some (.int .i64 0) := z2.cell 4
      have y5 : w2.cell? ⟨w.heap.size, 5, none⟩ = some (.int .i64 0) := z2.cell 5
      have y6 : w2.cell? ⟨w.heap.size, 6, none⟩ = some (.bool false) := z2.cell 6
      have x0 := z2.frozen 0
      have x1 := z2.frozen 1
      have x2 := z2.frozen 2
      have x3 := z2.frozen 3
      have x4 := z2.frozen 4
      have x5 := z2.frozen 5
      have x6 := z2.frozen 6
      have hres := (((((((z2.set_ 0 (.int .i64 0)).set_ 1 (.int .i64 0)).set_ 2 (.int .i64 0)).set_ 3 (.int .i64 0)).set_ 4 (.int .i64 0)).set_ 5 (.int .i64 0)).set_ 6 (.bool false))
      have hbel := (((((((hb2.setCell (p := ⟨w.heap.size, 0, none⟩) (Nat.le_refl _) (.int .i64 0)).setCell (p := ⟨w.heap.size, 1, none⟩) (Nat.le_refl _) (.int .i64 0)).setCell (p := ⟨w.heap.size, 2, none⟩) (Nat.le_refl _) (.int .i64 0)).setCell (p := ⟨w.heap.size, 3, none⟩) (Nat.le_refl _) (.int .i64 0)).setCell (p := ⟨w.heap.size, 4, none⟩) (Nat.le_refl _) (.int .i64 0)).setCell (p := ⟨w.heap.size, 5, none⟩) (Nat.le_refl _) (.int .i64 0)).setCell (p := ⟨w.heap.size, 6, none⟩) (Nat.le_refl _) (.bool false))
      clear z2 hb2
      go_wp2
      refine bodyPost_ret (bresults_pair rfl _ _ w.heap.size 25 _ rfl hres rfl) rfl ⟨?_, hbel⟩
      rw [← hV.out]
      rfl
end Go.Proofs.Ytkghaemnjfiliaa
