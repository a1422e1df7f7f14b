/- Contracts of frame's and the document's questions about frames, of Tag and Untag: each answers what the plain function says, and turns nothing that was there. No condition. -/
import Derived.Test.YtnhnllkcnpbgoaaBel
import Derived.Test.YtnhnllkcnpbgoaaFrP
import Derived.Laws.Rows
import Derived.Laws.ResultCell
namespace Go.Proofs.Ytnhnllkcnpbgoaa
open Go.RowKit

theorem fr_info : (Try.prog.info? 24).map (·.size) = some 7 := by kernel_rfl

set_option maxHeartbeats 400000 in
theorem tag_any (f : Fr) (vid prio : Int) (w : World) :
    Calls Try.prog 26 #[f.v, .int .i64 vid, .int .i64 prio] w fun e w' => e = .returned ((f.tag vid prio).v) ∧ Below w.heap.size w w' := by
  obtain ⟨dst, src, tagged, v0, p0, typ, data⟩ := f
  simp only [Fr.v, Fr.cells, Fr.tag]
  go_enter Try.func26, Try.ntmps26
  go_wp2
  exact bodyPost_ret (results_cell_row rfl _ _ (w.heap.size + 1) 24 _ (0, 0) _ rfl (heap_alloc2_new _ _ _) Try.underlying24 rfl fr_info) rfl ⟨rfl, bel_alloc2 _ _ _⟩

set_option maxHeartbeats 400000 in
theorem untag_any (f : Fr) (w : World) :
    Calls Try.prog 25 #[f.v] w fun e w' => e = .returned (f.untag.v) ∧ Below w.heap.size w w' := by
  obtain ⟨dst, src, tagged, v0, p0, typ, data⟩ := f
  simp only [Fr.v, Fr.cells, Fr.untag]
  go_enter Try.func25, Try.ntmps25
  go_wp2
  exact bodyPost_ret (results_cell_row rfl _ _ (w.heap.size + 1) 24 _ (0, 0) _ rfl (heap_alloc2_new _ _ _) Try.underlying24 rfl fr_info) rfl ⟨rfl, bel_alloc2 _ _ _⟩

set_option maxHeartbeats 400000 in
theorem goodTag_any (f : Fr) (w : World) :
    Calls Try.prog 22 #[f.v] w fun e w' => e = .returned (.bool (tagB f)) ∧ Below w.heap.size w w' := by
  obtain ⟨dst, src, tagged, vid, prio, typ, data⟩ := f
  simp only [Fr.v, Fr.cells, tagB]
  cases tagged
  · by_cases h1 : vid = 0
    · by_cases h2 : prio = 0
      · subst h1 h2
        go_enter Try.func22, Try.ntmps22
        go_wp2
        go_ret
        exact ⟨rfl, bel_alloc _ _⟩
      · subst h1
        have d2 : (prio == 0) = false := by simpa using h2
        have dd : decide (True ∧ prio = 0) = false := by simpa using h2
        simp only [Bool.false_eq_true, if_false]
        rw [dd]
        clear h2 dd
        go_enter Try.func22, Try.ntmps22
        go_wp2
        go_ret
        exact ⟨rfl, bel_alloc _ _⟩
    · have d1 : (vid == 0) = false := by simpa using h1
      have dd : decide (vid = 0 ∧ prio = 0) = false := by simp [h1]
      simp only [Bool.false_eq_true, if_false]
      rw [dd]
      clear h1 dd
      go_enter Try.func22, Try.ntmps22
      go_wp2
      go_ret
      exact ⟨rfl, bel_alloc _ _⟩
  · simp only [if_true]
    by_cases h1 : 0 ≤ vid
    · by_cases h2 : vid ≤ 4094
      · by_cases h3 : 0 ≤ prio
        · by_cases h4 : prio ≤ 7
          · rw [show decide (0 ≤ vid ∧ vid ≤ 4094 ∧ 0 ≤ prio ∧ prio ≤ 7) = true from decide_eq_true ⟨h1, h2, h3, h4⟩]
            go_enter Try.func22, Try.ntmps22
            go_wp2
            go_ret
            exact ⟨rfl, bel_alloc _ _⟩
          · rw [show decide (0 ≤ vid ∧ vid ≤ 4094 ∧ 0 ≤ prio ∧ prio ≤ 7) = false from decide_eq_false (by omega)]
            go_enter Try.func22, Try.ntmps22
            go_wp2
            go_ret
            exact ⟨rfl, bel_alloc _ _⟩
        · rw [show decide (0 ≤ vid ∧ vid ≤ 4094 ∧ 0 ≤ prio ∧ prio ≤ 7) = false from decide_eq_false (by omega)]
          go_enter Try.func22, Try.ntmps22
          go_wp2
          go_ret
          exact ⟨rfl, bel_alloc _ _⟩
      · rw [show decide (0 ≤ vid ∧ vid ≤ 4094 ∧ 0 ≤ prio ∧ prio ≤ 7) = false from decide_eq_false (by omega)]
        go_enter Try.func22, Try.ntmps22
        go_wp2
        go_ret
        exact ⟨rfl, bel_alloc _ _⟩
    · rw [show decide (0 ≤ vid ∧ vid ≤ 4094 ∧ 0 ≤ prio ∧ prio ≤ 7) = false from decide_eq_false (by omega)]
      go_enter Try.func22, Try.ntmps22
      go_wp2
      go_ret
      exact ⟨rfl, bel_alloc _ _⟩

theorem goodType_any (t : Int) (w : World) :
    Calls Try.prog 23 #[.int .i64 t] w fun e w' => e = .returned (.bool (ftypeB t)) ∧ w = w' := by
  by_cases h0 : t = 0
  · subst h0
    go_enter Try.func23, Try.ntmps23
    go_wp2
    go_ret
    exact ⟨rfl, rfl⟩
  · have d0 : (t == 0) = false := by simpa using h0
    by_cases h1 : 1536 ≤ t ∧ t ≤ 65535
    · have HT := Lib.hid (show typeB t = true from decide_eq_true h1)
      by_cases h2 : t = 33024
      · subst h2
        clear h0 d0
        go_enter Try.func23, Try.ntmps23
        go_wp2_with (go_at_call 29; refine (type_any _ _).mono ?_; rw [HT.out]; rintro e w' ⟨rfl, rfl⟩)
        go_ret
        exact ⟨rfl, rfl⟩
      · rw [show ftypeB t = true from decide_eq_true (.inr ⟨h1.1, h1.2, h2⟩)]
        have d2 : (t != 33024) = true := by simpa using h2
        clear h0 h1 h2
        go_enter Try.func23, Try.ntmps23
        go_wp2_with (go_at_call 29; refine (type_any _ _).mono ?_; rw [HT.out]; rintro e w' ⟨rfl, rfl⟩)
        go_ret
        exact ⟨rfl, rfl⟩
    · have HT := Lib.hid (show typeB t = false from decide_eq_false h1)
      rw [show ftypeB t = false from decide_eq_false (by omega)]
      clear h0 h1
      go_enter Try.func23, Try.ntmps23
      go_wp2_with (go_at_call 29; refine (type_any _ _).mono ?_; rw [HT.out]; rintro e w' ⟨rfl, rfl⟩)
      go_ret
      exact ⟨rfl, rfl⟩

/-- The answers of the six questions about a frame. -/
theorem fr_cell {W w' : World} {g B : Nat} {f : Fr} (h : Blk W g 24 f.cells) (hb : Below B W w') (hg : g < B) : Blk w' g 24 f.cells := h.below hb hg

set_option maxHeartbeats 1000000 in
theorem fgood_any (f : Fr) (w : World) :
    Calls Try.prog 13 #[f.v] w fun e w' => e = .returned (.bool f.good) ∧ Below w.heap.size w w' := by
  obtain ⟨F, hF⟩ : ∃ F, F = f := ⟨_, rfl⟩
  obtain ⟨dst, src, tagged, vid, prio, typ, data⟩ := f
  have hv : Fr.v ⟨dst, src, tagged, vid, prio, typ, data⟩ = .agg #[.int .i64 dst, .int .i64 src, .bool tagged, .int .i64 vid, .int .i64 prio, .int .i64 typ, .string data] := rfl
  obtain ⟨b1, H1⟩ : ∃ b, Hid (goodB dst = b) := ⟨_, Lib.hid rfl⟩
  obtain ⟨b2, H2⟩ : ∃ b, Hid (goodB src = b) := ⟨_, Lib.hid rfl⟩
  obtain ⟨b3, H3⟩ : ∃ b, Hid (manyB src = b) := ⟨_, Lib.hid rfl⟩
  obtain ⟨b4, H4⟩ : ∃ b, Hid (tagB ⟨dst, src, tagged, vid, prio, typ, data⟩ = b) := ⟨_, Lib.hid rfl⟩
  obtain ⟨b5, H5⟩ : ∃ b, Hid (ftypeB typ = b) := ⟨_, Lib.hid rfl⟩
  have HG := Lib.hid (show Fr.good ⟨dst, src, tagged, vid, prio, typ, data⟩ = (b1 && b2 && !b3 && b4 && b5 && decide ((data.size : Int) ≤ 400)) by rw [← H1.out, ← H2.out, ← H3.out, ← H4.out, ← H5.out]; rfl)
  have hb0 := bel_alloc w (.cells #[.int .i64 dst, .int .i64 src, .bool tagged, .int .i64 vid, .int .i64 prio, .int .i64 typ, .string data] 24)
  rw [HG.out]
  rw [hv]
  clear hF
  have hblk := Blk.new w 24 #[.int .i64 dst, .int .i64 src, .bool tagged, .int .i64 vid, .int .i64 prio, .int .i64 typ, .string data]
  cases b1
  · go_enter Try.func13, Try.ntmps13
    go_wp2_with (first | (go_at_call 20; refine (good_any _ _).mono ?_; (first | rw [H1.out] | rw [H2.out]); rintro e w' ⟨rfl, rfl⟩))
    go_ret
    exact ⟨rfl, hb0⟩
  cases b2
  · go_enter Try.func13, Try.ntmps13
    go_wp2_with (first | (go_at_call 20; refine (good_any _ _).mono ?_; (first | rw [H1.out] | rw [H2.out]); rintro e w' ⟨rfl, rfl⟩))
    go_ret
    exact ⟨rfl, hb0⟩
  cases b3
  · cases b4
    · go_enter Try.func13, Try.ntmps13
      go_wp2_with (first | (go_at_call 20; refine (good_any _ _).mono ?_; (first | rw [H1.out] | rw [H2.out]); rintro e w' ⟨rfl, rfl⟩) | (go_at_call 21; refine (many_any _ _).mono ?_; rw [H3.out]; rintro e w' ⟨rfl, rfl⟩) | (go_at_call 22; refine (goodTag_any ⟨dst, src, tagged, vid, prio, typ, data⟩ _).mono ?_; rw [H4.out]; rintro e w4 ⟨rfl, hb4⟩; have hk4 := hblk.below hb4 (by simp); have c5 := hk4.cell 5; have c6 := hk4.cell 6))
      go_ret
      exact ⟨rfl, hb0.trans (hb4.mono (by simp))⟩
    cases b5
    · go_enter Try.func13, Try.ntmps13
      go_wp2_with (first | (go_at_call 20; refine (good_any _ _).mono ?_; (first | rw [H1.out] | rw [H2.out]); rintro e w' ⟨rfl, rfl⟩) | (go_at_call 21; refine (many_any _ _).mono ?_; rw [H3.out]; rintro e w' ⟨rfl, rfl⟩) | (go_at_call 22; refine (goodTag_any ⟨dst, src, tagged, vid, prio, typ, data⟩ _).mono ?_; rw [H4.out]; rintro e w4 ⟨rfl, hb4⟩; have hk4 := hblk.below hb4 (by simp); have c5 := hk4.cell 5; have c6 := hk4.cell 6) | (go_at_call 23; refine (goodType_any _ _).mono ?_; rw [H5.out]; rintro e w' ⟨rfl, rfl⟩))
      go_ret
      exact ⟨rfl, hb0.trans (hb4.mono (by simp))⟩
    by_cases hd : (data.size : Int) ≤ 400
    · rw [decide_eq_true hd]
      go_enter Try.func13, Try.ntmps13
      go_wp2_with (first | (go_at_call 20; refine (good_any _ _).mono ?_; (first | rw [H1.out] | rw [H2.out]); rintro e w' ⟨rfl, rfl⟩) | (go_at_call 21; refine (many_any _ _).mono ?_; rw [H3.out]; rintro e w' ⟨rfl, rfl⟩) | (go_at_call 22; refine (goodTag_any ⟨dst, src, tagged, vid, prio, typ, data⟩ _).mono ?_; rw [H4.out]; rintro e w4 ⟨rfl, hb4⟩; have hk4 := hblk.below hb4 (by simp); have c5 := hk4.cell 5; have c6 := hk4.cell 6) | (go_at_call 23; refine (goodType_any _ _).mono ?_; rw [H5.out]; rintro e w' ⟨rfl, rfl⟩))
      go_ret
      exact ⟨rfl, hb0.trans (hb4.mono (by simp))⟩
    · have d6 := decide_eq_false hd
      rw [d6]
      clear hd
      go_enter Try.func13, Try.ntmps13
      go_wp2_with (first | (go_at_call 20; refine (good_any _ _).mono ?_; (first | rw [H1.out] | rw [H2.out]); rintro e w' ⟨rfl, rfl⟩) | (go_at_call 21; refine (many_any _ _).mono ?_; rw [H3.out]; rintro e w' ⟨rfl, rfl⟩) | (go_at_call 22; refine (goodTag_any ⟨dst, src, tagged, vid, prio, typ, data⟩ _).mono ?_; rw [H4.out]; rintro e w4 ⟨rfl, hb4⟩; have hk4 := hblk.below hb4 (by simp); have c5 := hk4.cell 5; have c6 := hk4.cell 6) | (go_at_call 23; refine (goodType_any _ _).mono ?_; rw [H5.out]; rintro e w' ⟨rfl, rfl⟩))
      go_ret
      exact ⟨rfl, hb0.trans (hb4.mono (by simp))⟩
  · go_enter Try.func13, Try.ntmps13
    go_wp2_with (first | (go_at_call 20; refine (good_any _ _).mono ?_; (first | rw [H1.out] | rw [H2.out]); rintro e w' ⟨rfl, rfl⟩) | (go_at_call 21; refine (many_any _ _).mono ?_; rw [H3.out]; rintro e w' ⟨rfl, rfl⟩))
    go_ret
    exact ⟨rfl, hb0⟩

/-- The document's question. -/
theorem good_parts {dst src vid prio typ : Int} {tagged : Bool} {data : ByteArray} {b1 b2 b3 b4 b5 b6 : Bool} (h1 : goodB dst = b1) (h2 : goodB src = b2) (h3 : manyB src = b3)
    (h4 : tagB ⟨dst, src, tagged, vid, prio, typ, data⟩ = b4) (h5 : ftypeB typ = b5) (h6 : decide ((data.size : Int) ≤ 400) = b6) : Fr.good ⟨dst, src, tagged, vid, prio, typ, data⟩ = (b1 && b2 && !b3 && b4 && b5 && b6) := by
  subst h1 h2 h3 h4 h5 h6
  rfl
end Go.Proofs.Ytnhnllkcnpbgoaa
