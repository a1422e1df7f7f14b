/- Contracts of frame's and the document's questions about frames, of Tag and Untag: each answers what the plain function says, and turns nothing that was there. No condition. -/
import Derived.Test.YthbnadohldiifaaDoorFplain
import Derived.Laws.Rows
import Derived.Laws.ResultCell
namespace Go.Proofs.YthbnadohldiifaaDoor
open Go.RowKit

theorem fr_info : (Tryd.prog.info? 23).map (·.size) = some 7 := by kernel_rfl
theorem bel_alloc2 (w : World) (a b : Obj) : Below w.heap.size w ((w.alloc a).alloc b) := ((Below.refl _ _).alloc (Nat.le_refl _) _).alloc (by simp) _
theorem bel_alloc (w : World) (a : Obj) : Below w.heap.size w (w.alloc a) := (Below.refl _ _).alloc (Nat.le_refl _) _

set_option maxHeartbeats 400000 in
theorem tag_any (f : Fr) (vid prio : Int) (w : World) :
    Calls Tryd.prog 14 #[f.v, .int .i64 vid, .int .i64 prio] w fun e w' => e = .returned ((f.tag vid prio).v) ∧ Below w.heap.size w w' := by
  obtain ⟨dst, src, tagged, v0, p0, typ, data⟩ := f
  simp only [Fr.v, Fr.cells, Fr.tag]
  go_enter Tryd.func14, Tryd.ntmps14
  go_wp2
  exact bodyPost_ret (results_cell_row rfl _ _ (w.heap.size + 1) 23 _ (0, 0) _ rfl (heap_alloc2_new _ _ _) Tryd.underlying23 rfl fr_info) rfl ⟨rfl, bel_alloc2 _ _ _⟩

set_option maxHeartbeats 400000 in
theorem untag_any (f : Fr) (w : World) :
    Calls Tryd.prog 15 #[f.v] w fun e w' => e = .returned (f.untag.v) ∧ Below w.heap.size w w' := by
  obtain ⟨dst, src, tagged, v0, p0, typ, data⟩ := f
  simp only [Fr.v, Fr.cells, Fr.untag]
  go_enter Tryd.func15, Tryd.ntmps15
  go_wp2
  exact bodyPost_ret (results_cell_row rfl _ _ (w.heap.size + 1) 23 _ (0, 0) _ rfl (heap_alloc2_new _ _ _) Tryd.underlying23 rfl fr_info) rfl ⟨rfl, bel_alloc2 _ _ _⟩

set_option maxHeartbeats 400000 in
theorem goodTag_any (f : Fr) (w : World) :
    Calls Tryd.prog 22 #[f.v] w fun e w' => e = .returned (.bool (tagB f)) ∧ Below w.heap.size w w' := by
  obtain ⟨dst, src, tagged, vid, prio, typ, data⟩ := f
  simp only [Fr.v, Fr.cells, tagB]
  cases tagged
  · by_cases h1 : vid = 0
    · by_cases h2 : prio = 0
      · subst h1 h2
        go_enter Tryd.func22, Tryd.ntmps22
        go_wp2
        go_ret
        exact ⟨rfl, bel_alloc _ _⟩
      · subst h1
        have d2 : (prio == 0) = false := by simpa using h2
        have dd : decide (True ∧ prio = 0) = false := by simpa using h2
        simp only [Bool.false_eq_true, if_false]
        rw [dd]
        clear h2 dd
        go_enter Tryd.func22, Tryd.ntmps22
        go_wp2
        go_ret
        exact ⟨rfl, bel_alloc _ _⟩
    · have d1 : (vid == 0) = false := by simpa using h1
      have dd : decide (vid = 0 ∧ prio = 0) = false := by simp [h1]
      simp only [Bool.false_eq_true, if_false]
      rw [dd]
      clear h1 dd
      go_enter Tryd.func22, Tryd.ntmps22
      go_wp2
      go_ret
      exact ⟨rfl, bel_alloc _ _⟩
  · simp only [if_true]
    by_cases h1 : 0 ≤ vid
    · by_cases h2 : vid ≤ 4094
      · by_cases h3 : 0 ≤ prio
        · by_cases h4 : prio ≤ 7
          · rw [show decide (0 ≤ vid ∧ vid ≤ 4094 ∧ 0 ≤ prio ∧ prio ≤ 7) = true from decide_eq_true ⟨h1, h2, h3, h4⟩]
            go_enter Tryd.func22, Tryd.ntmps22
            go_wp2
            go_ret
            exact ⟨rfl, bel_alloc _ _⟩
          · rw [show decide (0 ≤ vid ∧ vid ≤ 4094 ∧ 0 ≤ prio ∧ prio ≤ 7) = false from decide_eq_false (by omega)]
            go_enter Tryd.func22, Tryd.ntmps22
            go_wp2
            go_ret
            exact ⟨rfl, bel_alloc _ _⟩
        · rw [show decide (0 ≤ vid ∧ vid ≤ 4094 ∧ 0 ≤ prio ∧ prio ≤ 7) = false from decide_eq_false (by omega)]
          go_enter Tryd.func22, Tryd.ntmps22
          go_wp2
          go_ret
          exact ⟨rfl, bel_alloc _ _⟩
      · rw [show decide (0 ≤ vid ∧ vid ≤ 4094 ∧ 0 ≤ prio ∧ prio ≤ 7) = false from decide_eq_false (by omega)]
        go_enter Tryd.func22, Tryd.ntmps22
        go_wp2
        go_ret
        exact ⟨rfl, bel_alloc _ _⟩
    · rw [show decide (0 ≤ vid ∧ vid ≤ 4094 ∧ 0 ≤ prio ∧ prio ≤ 7) = false from decide_eq_false (by omega)]
      go_enter Tryd.func22, Tryd.ntmps22
      go_wp2
      go_ret
      exact ⟨rfl, bel_alloc _ _⟩

theorem goodType_any (t : Int) (w : World) :
    Calls Tryd.prog 23 #[.int .i64 t] w fun e w' => e = .returned (.bool (ftypeB t)) ∧ w = w' := by
  by_cases h0 : t = 0
  · subst h0
    go_enter Tryd.func23, Tryd.ntmps23
    go_wp2
    go_ret
    exact ⟨rfl, rfl⟩
  · have d0 : (t == 0) = false := by simpa using h0
    by_cases h1 : 1536 ≤ t ∧ t ≤ 65535
    · have HT := Lib.hid (show typeB t = true from decide_eq_true h1)
      by_cases h2 : t = 33024
      · subst h2
        clear h0 d0
        go_enter Tryd.func23, Tryd.ntmps23
        go_wp2_with (go_at_call 32; refine (type_any _ _).mono ?_; rw [HT.out]; rintro e w' ⟨rfl, rfl⟩)
        go_ret
        exact ⟨rfl, rfl⟩
      · rw [show ftypeB t = true from decide_eq_true (.inr ⟨h1.1, h1.2, h2⟩)]
        have d2 : (t != 33024) = true := by simpa using h2
        clear h0 h1 h2
        go_enter Tryd.func23, Tryd.ntmps23
        go_wp2_with (go_at_call 32; refine (type_any _ _).mono ?_; rw [HT.out]; rintro e w' ⟨rfl, rfl⟩)
        go_ret
        exact ⟨rfl, rfl⟩
    · have HT := Lib.hid (show typeB t = false from decide_eq_false h1)
      rw [show ftypeB t = false from decide_eq_false (by omega)]
      clear h0 h1
      go_enter Tryd.func23, Tryd.ntmps23
      go_wp2_with (go_at_call 32; refine (type_any _ _).mono ?_; rw [HT.out]; rintro e w' ⟨rfl, rfl⟩)
      go_ret
      exact ⟨rfl, rfl⟩

/-- The answers of the six questions about a frame. -/
theorem fr_cell {W w' : World} {g B : Nat} {f : Fr} (h : Blk W g 23 f.cells) (hb : Below B W w') (hg : g < B) : Blk w' g 23 f.cells := h.below hb hg

set_option maxHeartbeats 1000000 in
theorem fgood_any (f : Fr) (w : World) :
    Calls Tryd.prog 11 #[f.v] w fun e w' => e = .returned (.bool f.good) ∧ Below w.heap.size w w' := by
  obtain ⟨F, hF⟩ : ∃ F, F = f := ⟨_, rfl⟩
  obtain ⟨dst, src, tagged, vid, prio, typ, data⟩ := f
  have hv : Fr.v ⟨dst, src, tagged, vid, prio, typ, data⟩ = .agg #[.int .i64 dst, .int .i64 src, .bool tagged, .int .i64 vid, .int .i64 prio, .int .i64 typ, .string data] := rfl
  obtain ⟨b1, H1⟩ : ∃ b, Hid (goodB dst = b) := ⟨_, Lib.hid rfl⟩
  obtain ⟨b2, H2⟩ : ∃ b, Hid (goodB src = b) := ⟨_, Lib.hid rfl⟩
  obtain ⟨b3, H3⟩ : ∃ b, Hid (manyB src = b) := ⟨_, Lib.hid rfl⟩
  obtain ⟨b4, H4⟩ : ∃ b, Hid (tagB ⟨dst, src, tagged, vid, prio, typ, data⟩ = b) := ⟨_, Lib.hid rfl⟩
  obtain ⟨b5, H5⟩ : ∃ b, Hid (ftypeB typ = b) := ⟨_, Lib.hid rfl⟩
  have HG := Lib.hid (show Fr.good ⟨dst, src, tagged, vid, prio, typ, data⟩ = (b1 && b2 && !b3 && b4 && b5 && decide ((data.size : Int) ≤ 400)) by rw [← H1.out, ← H2.out, ← H3.out, ← H4.out, ← H5.out]; rfl)
  have hb0 := bel_alloc w (.cells #[.int .i64 dst, .int .i64 src, .bool tagged, .int .i64 vid, .int .i64 prio, .int .i64 typ, .string data] 23)
  rw [HG.out]
  rw [hv]
  clear hF
  have hblk := Blk.new w 23 #[.int .i64 dst, .int .i64 src, .bool tagged, .int .i64 vid, .int .i64 prio, .int .i64 typ, .string data]
  cases b1
  · go_enter Tryd.func11, Tryd.ntmps11
    go_wp2_with (first | (go_at_call 20; refine (good_any _ _).mono ?_; (first | rw [H1.out] | rw [H2.out]); rintro e w' ⟨rfl, rfl⟩))
    go_ret
    exact ⟨rfl, hb0⟩
  cases b2
  · go_enter Tryd.func11, Tryd.ntmps11
    go_wp2_with (first | (go_at_call 20; refine (good_any _ _).mono ?_; (first | rw [H1.out] | rw [H2.out]); rintro e w' ⟨rfl, rfl⟩))
    go_ret
    exact ⟨rfl, hb0⟩
  cases b3
  · cases b4
    · go_enter Tryd.func11, Tryd.ntmps11
      go_wp2_with (first | (go_at_call 20; refine (good_any _ _).mono ?_; (first | rw [H1.out] | rw [H2.out]); rintro e w' ⟨rfl, rfl⟩) | (go_at_call 21; refine (many_any _ _).mono ?_; rw [H3.out]; rintro e w' ⟨rfl, rfl⟩) | (go_at_call 22; refine (goodTag_any ⟨dst, src, tagged, vid, prio, typ, data⟩ _).mono ?_; rw [H4.out]; rintro e w4 ⟨rfl, hb4⟩; have hk4 := hblk.below hb4 (by simp); have c5 := hk4.cell 5; have c6 := hk4.cell 6))
      go_ret
      exact ⟨rfl, hb0.trans (hb4.mono (by simp))⟩
    cases b5
    · go_enter Tryd.func11, Tryd.ntmps11
      go_wp2_with (first | (go_at_call 20; refine (good_any _ _).mono ?_; (first | rw [H1.out] | rw [H2.out]); rintro e w' ⟨rfl, rfl⟩) | (go_at_call 21; refine (many_any _ _).mono ?_; rw [H3.out]; rintro e w' ⟨rfl, rfl⟩) | (go_at_call 22; refine (goodTag_any ⟨dst, src, tagged, vid, prio, typ, data⟩ _).mono ?_; rw [H4.out]; rintro e w4 ⟨rfl, hb4⟩; have hk4 := hblk.below hb4 (by simp); have c5 := hk4.cell 5; have c6 := hk4.cell 6) | (go_at_call 23; refine (goodType_any _ _).mono ?_; rw [H5.out]; rintro e w' ⟨rfl, rfl⟩))
      go_ret
      exact ⟨rfl, hb0.trans (hb4.mono (by simp))⟩
    by_cases hd : (data.size : Int) ≤ 400
    · rw [decide_eq_true hd]
      go_enter Tryd.func11, Tryd.ntmps11
      go_wp2_with (first | (go_at_call 20; refine (good_any _ _).mono ?_; (first | rw [H1.out] | rw [H2.out]); rintro e w' ⟨rfl, rfl⟩) | (go_at_call 21; refine (many_any _ _).mono ?_; rw [H3.out]; rintro e w' ⟨rfl, rfl⟩) | (go_at_call 22; refine (goodTag_any ⟨dst, src, tagged, vid, prio, typ, data⟩ _).mono ?_; rw [H4.out]; rintro e w4 ⟨rfl, hb4⟩; have hk4 := hblk.below hb4 (by simp); have c5 := hk4.cell 5; have c6 := hk4.cell 6) | (go_at_call 23; refine (goodType_any _ _).mono ?_; rw [H5.out]; rintro e w' ⟨rfl, rfl⟩))
      go_ret
      exact ⟨rfl, hb0.trans (hb4.mono (by simp))⟩
    · have d6 := decide_eq_false hd
      rw [d6]
      clear hd
      go_enter Tryd.func11, Tryd.ntmps11
      go_wp2_with (first | (go_at_call 20; refine (good_any _ _).mono ?_; (first | rw [H1.out] | rw [H2.out]); rintro e w' ⟨rfl, rfl⟩) | (go_at_call 21; refine (many_any _ _).mono ?_; rw [H3.out]; rintro e w' ⟨rfl, rfl⟩) | (go_at_call 22; refine (goodTag_any ⟨dst, src, tagged, vid, prio, typ, data⟩ _).mono ?_; rw [H4.out]; rintro e w4 ⟨rfl, hb4⟩; have hk4 := hblk.below hb4 (by simp); have c5 := hk4.cell 5; have c6 := hk4.cell 6) | (go_at_call 23; refine (goodType_any _ _).mono ?_; rw [H5.out]; rintro e w' ⟨rfl, rfl⟩))
      go_ret
      exact ⟨rfl, hb0.trans (hb4.mono (by simp))⟩
  · go_enter Tryd.func11, Tryd.ntmps11
    go_wp2_with (first | (go_at_call 20; refine (good_any _ _).mono ?_; (first | rw [H1.out] | rw [H2.out]); rintro e w' ⟨rfl, rfl⟩) | (go_at_call 21; refine (many_any _ _).mono ?_; rw [H3.out]; rintro e w' ⟨rfl, rfl⟩))
    go_ret
    exact ⟨rfl, hb0⟩

/-- The document's question. -/
theorem good_parts {dst src vid prio typ : Int} {tagged : Bool} {data : ByteArray} {b1 b2 b3 b4 b5 b6 : Bool} (h1 : goodB dst = b1) (h2 : goodB src = b2) (h3 : manyB src = b3)
    (h4 : tagB ⟨dst, src, tagged, vid, prio, typ, data⟩ = b4) (h5 : ftypeB typ = b5) (h6 : decide ((data.size : Int) ≤ 400) = b6) : Fr.good ⟨dst, src, tagged, vid, prio, typ, data⟩ = (b1 && b2 && !b3 && b4 && b5 && b6) := by
  subst h1 h2 h3 h4 h5 h6
  rfl
set_option maxHeartbeats 2000000 in
theorem rgood_any (f : Fr) (w : World) :
    Calls Tryd.prog 9 #[f.v] w fun e w' => e = .returned (.bool f.good) ∧ Below w.heap.size w w' := by
  obtain ⟨dst, src, tagged, vid, prio, typ, data⟩ := f
  have hv : Fr.v ⟨dst, src, tagged, vid, prio, typ, data⟩ = .agg #[.int .i64 dst, .int .i64 src, .bool tagged, .int .i64 vid, .int .i64 prio, .int .i64 typ, .string data] := rfl
  obtain ⟨b1, H1⟩ : ∃ b, Hid (goodB dst = b) := ⟨_, Lib.hid rfl⟩
  obtain ⟨b2, H2⟩ : ∃ b, Hid (goodB src = b) := ⟨_, Lib.hid rfl⟩
  obtain ⟨b3, H3⟩ : ∃ b, Hid (manyB src = b) := ⟨_, Lib.hid rfl⟩
  have hb0 := bel_alloc w (.cells #[.int .i64 dst, .int .i64 src, .bool tagged, .int .i64 vid, .int .i64 prio, .int .i64 typ, .string data] 23)
  rw [hv]
  have HG : ∀ {b4 b5 b6 b : Bool}, tagB ⟨dst, src, tagged, vid, prio, typ, data⟩ = b4 → ftypeB typ = b5 → decide ((data.size : Int) ≤ 400) = b6 → (b1 && b2 && !b3 && b4 && b5 && b6) = b → Fr.good ⟨dst, src, tagged, vid, prio, typ, data⟩ = b := by
    intro b4 b5 b6 b h4 h5 h6 h
    rw [← h]
    exact good_parts H1.out H2.out H3.out h4 h5 h6
  have HF : (b1 && b2 && !b3) = false → Fr.good ⟨dst, src, tagged, vid, prio, typ, data⟩ = false := by
    intro h
    refine HG rfl rfl rfl ?_
    rw [h]
    simp
  cases b1
  · rw [HF (by simp)]
    clear HG HF
    go_enter Tryd.func9, Tryd.ntmps9
    go_wp2_with (first | (go_at_call 16; refine (goodr_any _ _).mono ?_; (first | rw [H1.out] | rw [H2.out]); rintro e w' ⟨rfl, rfl⟩) | (go_at_call 17; refine (manyr_any _ _).mono ?_; rw [H3.out]; rintro e w' ⟨rfl, rfl⟩))
    go_ret
    exact ⟨rfl, hb0⟩
  cases b2
  · rw [HF (by simp)]
    clear HG HF
    go_enter Tryd.func9, Tryd.ntmps9
    go_wp2_with (first | (go_at_call 16; refine (goodr_any _ _).mono ?_; (first | rw [H1.out] | rw [H2.out]); rintro e w' ⟨rfl, rfl⟩) | (go_at_call 17; refine (manyr_any _ _).mono ?_; rw [H3.out]; rintro e w' ⟨rfl, rfl⟩))
    go_ret
    exact ⟨rfl, hb0⟩
  cases b3
  rotate_left
  · rw [HF (by simp)]
    clear HG HF
    go_enter Tryd.func9, Tryd.ntmps9
    go_wp2_with (first | (go_at_call 16; refine (goodr_any _ _).mono ?_; (first | rw [H1.out] | rw [H2.out]); rintro e w' ⟨rfl, rfl⟩) | (go_at_call 17; refine (manyr_any _ _).mono ?_; rw [H3.out]; rintro e w' ⟨rfl, rfl⟩))
    go_ret
    exact ⟨rfl, hb0⟩
  clear HF
  by_cases h6 : (data.size : Int) ≤ 400
  rotate_left
  · rw [HG (b := false) rfl rfl (decide_eq_false h6) (by simp)]
    have d6 : decide ((400 : Int) < (data.size : Int)) = true := by simp; omega
    clear HG h6
    go_enter Tryd.func9, Tryd.ntmps9
    go_wp2_with (first | (go_at_call 16; refine (goodr_any _ _).mono ?_; (first | rw [H1.out] | rw [H2.out]); rintro e w' ⟨rfl, rfl⟩) | (go_at_call 17; refine (manyr_any _ _).mono ?_; rw [H3.out]; rintro e w' ⟨rfl, rfl⟩))
    go_ret
    exact ⟨rfl, hb0⟩
  have d6 : decide ((400 : Int) < (data.size : Int)) = false := by simp; omega
  have HG2 : ∀ {b4 b5 b : Bool}, tagB ⟨dst, src, tagged, vid, prio, typ, data⟩ = b4 → ftypeB typ = b5 → (b4 && b5) = b → Fr.good ⟨dst, src, tagged, vid, prio, typ, data⟩ = b := by
    intro b4 b5 b h4 h5 h
    refine HG h4 h5 (decide_eq_true h6) ?_
    rw [← h]
    simp
  clear h6 HG
  cases tagged
  · by_cases v0 : vid = 0
    rotate_left
    · rw [HG2 (b := false) (show tagB _ = false by simp [tagB, v0]) rfl (by simp)]
      have d1 : (vid != 0) = true := by simpa using v0
      clear HG2 v0
      go_enter Tryd.func9, Tryd.ntmps9
      go_wp2_with (first | (go_at_call 16; refine (goodr_any _ _).mono ?_; (first | rw [H1.out] | rw [H2.out]); rintro e w' ⟨rfl, rfl⟩) | (go_at_call 17; refine (manyr_any _ _).mono ?_; rw [H3.out]; rintro e w' ⟨rfl, rfl⟩))
      go_ret
      exact ⟨rfl, hb0⟩
    subst v0
    by_cases p0 : prio = 0
    rotate_left
    · rw [HG2 (b := false) (show tagB _ = false by simp [tagB, p0]) rfl (by simp)]
      have d1 : (prio != 0) = true := by simpa using p0
      clear HG2 p0
      go_enter Tryd.func9, Tryd.ntmps9
      go_wp2_with (first | (go_at_call 16; refine (goodr_any _ _).mono ?_; (first | rw [H1.out] | rw [H2.out]); rintro e w' ⟨rfl, rfl⟩) | (go_at_call 17; refine (manyr_any _ _).mono ?_; rw [H3.out]; rintro e w' ⟨rfl, rfl⟩))
      go_ret
      exact ⟨rfl, hb0⟩
    subst p0
    by_cases t0 : typ = 0
    · subst t0
      rw [HG2 (show tagB _ = true from rfl) (show ftypeB 0 = true from rfl) rfl]
      clear HG2
      go_enter Tryd.func9, Tryd.ntmps9
      go_wp2_with (first | (go_at_call 16; refine (goodr_any _ _).mono ?_; (first | rw [H1.out] | rw [H2.out]); rintro e w' ⟨rfl, rfl⟩) | (go_at_call 17; refine (manyr_any _ _).mono ?_; rw [H3.out]; rintro e w' ⟨rfl, rfl⟩))
      go_ret
      exact ⟨rfl, hb0⟩
    have e0 : (typ == 0) = false := by simpa using t0
    by_cases t1 : 1536 ≤ typ
    rotate_left
    · rw [HG2 (show tagB _ = true from rfl) (show ftypeB typ = false from decide_eq_false (by omega)) rfl]
      clear HG2 t0
      go_enter Tryd.func9, Tryd.ntmps9
      go_wp2_with (first | (go_at_call 16; refine (goodr_any _ _).mono ?_; (first | rw [H1.out] | rw [H2.out]); rintro e w' ⟨rfl, rfl⟩) | (go_at_call 17; refine (manyr_any _ _).mono ?_; rw [H3.out]; rintro e w' ⟨rfl, rfl⟩))
      go_ret
      exact ⟨rfl, hb0⟩
    by_cases t2 : typ < 65536
    rotate_left
    · rw [HG2 (show tagB _ = true from rfl) (show ftypeB typ = false from decide_eq_false (by omega)) rfl]
      clear HG2 t0
      go_enter Tryd.func9, Tryd.ntmps9
      go_wp2_with (first | (go_at_call 16; refine (goodr_any _ _).mono ?_; (first | rw [H1.out] | rw [H2.out]); rintro e w' ⟨rfl, rfl⟩) | (go_at_call 17; refine (manyr_any _ _).mono ?_; rw [H3.out]; rintro e w' ⟨rfl, rfl⟩))
      go_ret
      exact ⟨rfl, hb0⟩
    by_cases t3 : typ = 33024
    · rw [HG2 (show tagB _ = true from rfl) (show ftypeB typ = false from decide_eq_false (by omega)) rfl]
      have e3 : (typ != 33024) = false := by simpa using t3
      clear HG2 t0 t3
      go_enter Tryd.func9, Tryd.ntmps9
      go_wp2_with (first | (go_at_call 16; refine (goodr_any _ _).mono ?_; (first | rw [H1.out] | rw [H2.out]); rintro e w' ⟨rfl, rfl⟩) | (go_at_call 17; refine (manyr_any _ _).mono ?_; rw [H3.out]; rintro e w' ⟨rfl, rfl⟩))
      go_ret
      exact ⟨rfl, hb0⟩
    rw [HG2 (show tagB _ = true from rfl) (show ftypeB typ = true from decide_eq_true (by omega)) rfl]
    have e3 : (typ != 33024) = true := by simpa using t3
    clear HG2 t0 t3
    go_enter Tryd.func9, Tryd.ntmps9
    go_wp2_with (first | (go_at_call 16; refine (goodr_any _ _).mono ?_; (first | rw [H1.out] | rw [H2.out]); rintro e w' ⟨rfl, rfl⟩) | (go_at_call 17; refine (manyr_any _ _).mono ?_; rw [H3.out]; rintro e w' ⟨rfl, rfl⟩))
    go_ret
    exact ⟨rfl, hb0⟩
  · by_cases v1 : 0 ≤ vid
    rotate_left
    · rw [HG2 (b := false) (show tagB _ = false by simp [tagB, v1]) rfl (by simp)]
      have d1 : decide (vid < 0) = true := by simp; omega
      clear HG2 v1
      go_enter Tryd.func9, Tryd.ntmps9
      go_wp2_with (first | (go_at_call 16; refine (goodr_any _ _).mono ?_; (first | rw [H1.out] | rw [H2.out]); rintro e w' ⟨rfl, rfl⟩) | (go_at_call 17; refine (manyr_any _ _).mono ?_; rw [H3.out]; rintro e w' ⟨rfl, rfl⟩))
      go_ret
      exact ⟨rfl, hb0⟩
    have x1 : decide (vid < 0) = false := by simp; omega
    by_cases v2 : vid ≤ 4094
    rotate_left
    · rw [HG2 (b := false) (show tagB _ = false by simp [tagB, v2]) rfl (by simp)]
      have d1 : decide (4094 < vid) = true := by simp; omega
      clear HG2 v2 v1
      go_enter Tryd.func9, Tryd.ntmps9
      go_wp2_with (first | (go_at_call 16; refine (goodr_any _ _).mono ?_; (first | rw [H1.out] | rw [H2.out]); rintro e w' ⟨rfl, rfl⟩) | (go_at_call 17; refine (manyr_any _ _).mono ?_; rw [H3.out]; rintro e w' ⟨rfl, rfl⟩))
      go_ret
      exact ⟨rfl, hb0⟩
    have x2 : decide (4094 < vid) = false := by simp; omega
    by_cases v3 : 0 ≤ prio
    rotate_left
    · rw [HG2 (b := false) (show tagB _ = false by simp [tagB, v3]) rfl (by simp)]
      have d1 : decide (prio < 0) = true := by simp; omega
      clear HG2 v3 v2 v1
      go_enter Tryd.func9, Tryd.ntmps9
      go_wp2_with (first | (go_at_call 16; refine (goodr_any _ _).mono ?_; (first | rw [H1.out] | rw [H2.out]); rintro e w' ⟨rfl, rfl⟩) | (go_at_call 17; refine (manyr_any _ _).mono ?_; rw [H3.out]; rintro e w' ⟨rfl, rfl⟩))
      go_ret
      exact ⟨rfl, hb0⟩
    have x3 : decide (prio < 0) = false := by simp; omega
    by_cases v4 : prio ≤ 7
    rotate_left
    · rw [HG2 (b := false) (show tagB _ = false by simp [tagB, v4]) rfl (by simp)]
      have d1 : decide (7 < prio) = true := by simp; omega
      clear HG2 v4 v3 v2 v1
      go_enter Tryd.func9, Tryd.ntmps9
      go_wp2_with (first | (go_at_call 16; refine (goodr_any _ _).mono ?_; (first | rw [H1.out] | rw [H2.out]); rintro e w' ⟨rfl, rfl⟩) | (go_at_call 17; refine (manyr_any _ _).mono ?_; rw [H3.out]; rintro e w' ⟨rfl, rfl⟩))
      go_ret
      exact ⟨rfl, hb0⟩
    have x4 : decide (7 < prio) = false := by simp; omega
    have ht : tagB ⟨dst, src, true, vid, prio, typ, data⟩ = true := by simp [tagB, v1, v2, v3, v4]
    replace ht := Lib.hid ht
    clear v1 v2 v3 v4
    by_cases t0 : typ = 0
    · subst t0
      rw [HG2 (ht.out) (show ftypeB 0 = true from rfl) rfl]
      clear HG2
      go_enter Tryd.func9, Tryd.ntmps9
      go_wp2_with (first | (go_at_call 16; refine (goodr_any _ _).mono ?_; (first | rw [H1.out] | rw [H2.out]); rintro e w' ⟨rfl, rfl⟩) | (go_at_call 17; refine (manyr_any _ _).mono ?_; rw [H3.out]; rintro e w' ⟨rfl, rfl⟩))
      go_ret
      exact ⟨rfl, hb0⟩
    have e0 : (typ == 0) = false := by simpa using t0
    by_cases t1 : 1536 ≤ typ
    rotate_left
    · rw [HG2 (ht.out) (show ftypeB typ = false from decide_eq_false (by omega)) rfl]
      clear HG2 t0
      go_enter Tryd.func9, Tryd.ntmps9
      go_wp2_with (first | (go_at_call 16; refine (goodr_any _ _).mono ?_; (first | rw [H1.out] | rw [H2.out]); rintro e w' ⟨rfl, rfl⟩) | (go_at_call 17; refine (manyr_any _ _).mono ?_; rw [H3.out]; rintro e w' ⟨rfl, rfl⟩))
      go_ret
      exact ⟨rfl, hb0⟩
    by_cases t2 : typ < 65536
    rotate_left
    · rw [HG2 (ht.out) (show ftypeB typ = false from decide_eq_false (by omega)) rfl]
      clear HG2 t0
      go_enter Tryd.func9, Tryd.ntmps9
      go_wp2_with (first | (go_at_call 16; refine (goodr_any _ _).mono ?_; (first | rw [H1.out] | rw [H2.out]); rintro e w' ⟨rfl, rfl⟩) | (go_at_call 17; refine (manyr_any _ _).mono ?_; rw [H3.out]; rintro e w' ⟨rfl, rfl⟩))
      go_ret
      exact ⟨rfl, hb0⟩
    by_cases t3 : typ = 33024
    · rw [HG2 (ht.out) (show ftypeB typ = false from decide_eq_false (by omega)) rfl]
      have e3 : (typ != 33024) = false := by simpa using t3
      clear HG2 t0 t3
      go_enter Tryd.func9, Tryd.ntmps9
      go_wp2_with (first | (go_at_call 16; refine (goodr_any _ _).mono ?_; (first | rw [H1.out] | rw [H2.out]); rintro e w' ⟨rfl, rfl⟩) | (go_at_call 17; refine (manyr_any _ _).mono ?_; rw [H3.out]; rintro e w' ⟨rfl, rfl⟩))
      go_ret
      exact ⟨rfl, hb0⟩
    rw [HG2 (ht.out) (show ftypeB typ = true from decide_eq_true (by omega)) rfl]
    have e3 : (typ != 33024) = true := by simpa using t3
    clear HG2 t0 t3
    go_enter Tryd.func9, Tryd.ntmps9
    go_wp2_with (first | (go_at_call 16; refine (goodr_any _ _).mono ?_; (first | rw [H1.out] | rw [H2.out]); rintro e w' ⟨rfl, rfl⟩) | (go_at_call 17; refine (manyr_any _ _).mono ?_; rw [H3.out]; rintro e w' ⟨rfl, rfl⟩))
    go_ret
    exact ⟨rfl, hb0⟩
end Go.Proofs.YthbnadohldiifaaDoor
