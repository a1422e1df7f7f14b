/- The program's small answers of layer 19: to which network a frame belongs, whether a port forwards, how a frame is sent. No condition. -/
import Derived.Test.YtnhnllkcnpbgoaaRlOwn
import Derived.Test.YtnhnllkcnpbgoaaFgood
namespace Go.Proofs.Ytnhnllkcnpbgoaa
open Go.Joins Go.ChangeShapes Go.WideShapes Go.ChangeAt Go.RowKit Go.Deep
set_option maxRecDepth 100000

theorem class_is (pv : Int) (f : Fr) (v : Int) (b : Bool) (hv : (if f.tagged = true ∧ f.vid ≠ 0 then f.vid else pv) = v) (hb : vidB v = b) : classP pv f = if b then v else 0 := by
  unfold classP
  unfold vidB at hb
  by_cases c : f.tagged = true ∧ f.vid ≠ 0
  · rw [if_pos c] at hv ⊢
    subst hv hb
    simp
  · rw [if_neg c] at hv ⊢
    subst hv hb
    simp
set_option maxHeartbeats 2000000 in
theorem class_any (x : Px) (f : Fr) (w : World) : Calls Try.prog 19 #[.agg #[.int .i64 x.st, .int .i64 x.pv, .bool x.sp, .slice x.A x.ms.length x.c], f.v] w fun e w' => e = .returned (.int .i64 (classP x.pv f)) ∧ Below w.heap.size w w' := by
  obtain ⟨x0, x1, x2, xA, xc, xs⟩ := x
  obtain ⟨f0, f1, f2, f3, f4, f5, f6⟩ := f
  have HB := Lib.hid (bel_alloc2 w (.cells #[.int .i64 x0, .int .i64 x1, .bool x2, .slice xA xs.length xc] 42) (.cells #[.int .i64 f0, .int .i64 f1, .bool f2, .int .i64 f3, .int .i64 f4, .int .i64 f5, .string f6] 24))
  show Calls _ _ #[.agg #[.int .i64 x0, .int .i64 x1, .bool x2, .slice xA xs.length xc], .agg #[.int .i64 f0, .int .i64 f1, .bool f2, .int .i64 f3, .int .i64 f4, .int .i64 f5, .string f6]] w fun e w' => e = .returned (.int .i64 (classP x1 ⟨f0, f1, f2, f3, f4, f5, f6⟩)) ∧ Below w.heap.size w w'
  have hf : ∀ b : Bool, vidB f3 = b → (f2 = true ∧ f3 ≠ 0) → classP x1 ⟨f0, f1, f2, f3, f4, f5, f6⟩ = if b then f3 else 0 := fun b hb hc => class_is _ _ _ _ (if_pos hc) hb
  have hp : ∀ b : Bool, vidB x1 = b → ¬ (f2 = true ∧ f3 ≠ 0) → classP x1 ⟨f0, f1, f2, f3, f4, f5, f6⟩ = if b then x1 else 0 := fun b hb hc => class_is _ _ _ _ (if_neg hc) hb
  have HF := Lib.hid (And.intro hf hp)
  clear hf hp
  cases f2 with
  | false =>
    obtain ⟨b, hb⟩ : ∃ b, vidB x1 = b := ⟨_, rfl⟩
    rw [HF.out.2 b hb (fun h => by cases h.1)]
    have HV := Lib.hid hb
    clear HF hb
    cases b with
    | false =>
      simp only [Bool.false_eq_true, if_false]
      go_enter Try.func19, Try.ntmps19
      go_wp2_with (go_at_call 28; refine (vid_any _ _).mono ?_; rw [HV.out]; rintro e w' ⟨rfl, rfl⟩)
      go_ret
      exact ⟨rfl, HB.out⟩
    | true =>
      simp only [if_true]
      go_enter Try.func19, Try.ntmps19
      go_wp2_with (go_at_call 28; refine (vid_any _ _).mono ?_; rw [HV.out]; rintro e w' ⟨rfl, rfl⟩)
      go_ret
      exact ⟨rfl, HB.out⟩
  | true =>
    by_cases h3 : f3 = 0
    · obtain ⟨b, hb⟩ : ∃ b, vidB x1 = b := ⟨_, rfl⟩
      rw [HF.out.2 b hb (fun h => h.2 h3)]
      have HV := Lib.hid hb
      clear HF hb
      subst h3
      cases b with
      | false =>
        simp only [Bool.false_eq_true, if_false]
        go_enter Try.func19, Try.ntmps19
        go_wp2_with (go_at_call 28; refine (vid_any _ _).mono ?_; rw [HV.out]; rintro e w' ⟨rfl, rfl⟩)
        go_ret
        exact ⟨rfl, HB.out⟩
      | true =>
        simp only [if_true]
        go_enter Try.func19, Try.ntmps19
        go_wp2_with (go_at_call 28; refine (vid_any _ _).mono ?_; rw [HV.out]; rintro e w' ⟨rfl, rfl⟩)
        go_ret
        exact ⟨rfl, HB.out⟩
    · obtain ⟨b, hb⟩ : ∃ b, vidB f3 = b := ⟨_, rfl⟩
      rw [HF.out.1 b hb ⟨rfl, h3⟩]
      have HV := Lib.hid hb
      have h3' : (f3 != 0) = true := by rw [bne_iff_ne]; exact h3
      clear HF hb h3
      cases b with
      | false =>
        simp only [Bool.false_eq_true, if_false]
        go_enter Try.func19, Try.ntmps19
        go_wp2_with (go_at_call 28; refine (vid_any _ _).mono ?_; rw [HV.out]; rintro e w' ⟨rfl, rfl⟩)
        go_ret
        exact ⟨rfl, HB.out⟩
      | true =>
        simp only [if_true]
        go_enter Try.func19, Try.ntmps19
        go_wp2_with (go_at_call 28; refine (vid_any _ _).mono ?_; rw [HV.out]; rintro e w' ⟨rfl, rfl⟩)
        go_ret
        exact ⟨rfl, HB.out⟩
set_option maxHeartbeats 1000000 in
theorem forwards_any (x : Px) (w : World) : Calls Try.prog 12 #[.agg #[.int .i64 x.st, .int .i64 x.pv, .bool x.sp, .slice x.A x.ms.length x.c]] w fun e w' => e = .returned (.bool (decide (x.st = 2))) ∧ Below w.heap.size w w' := by
  obtain ⟨x0, x1, x2, xA, xc, xs⟩ := x
  have HB := Lib.hid (bel_alloc w (.cells #[.int .i64 x0, .int .i64 x1, .bool x2, .slice xA xs.length xc] 42))
  show Calls _ _ #[.agg #[.int .i64 x0, .int .i64 x1, .bool x2, .slice xA xs.length xc]] w fun e w' => e = .returned (.bool (decide (x0 = 2))) ∧ Below w.heap.size w w'
  by_cases h : x0 = 2
  · subst h
    go_enter Try.func12, Try.ntmps12
    go_wp2_with fail
    go_ret
    exact ⟨rfl, HB.out⟩
  · have h' : (x0 == 2) = false := by rw [beq_eq_false_iff_ne]; exact h
    rw [decide_eq_false h]
    clear h
    go_enter Try.func12, Try.ntmps12
    go_wp2_with fail
    go_ret
    exact ⟨rfl, HB.out⟩
theorem put7_ret {w w5 : World} {g : Nat} {T : TypeId} {a0 a1 a2 a3 a4 a5 a6 : Value} (hb : Below w.heap.size w w5) (hg : w.heap.size ≤ g) (k : Blk w5 g T #[a0, a1, a2, a3, a4, a5, a6]) (u0 u1 u2 u3 u4 u5 u6 : Value) :
    Below w.heap.size w (((((((w5.setCell ⟨g, 0, none⟩ u0).setCell ⟨g, 1, none⟩ u1).setCell ⟨g, 2, none⟩ u2).setCell ⟨g, 3, none⟩ u3).setCell ⟨g, 4, none⟩ u4).setCell ⟨g, 5, none⟩ u5).setCell ⟨g, 6, none⟩ u6) ∧
    (((((((w5.setCell ⟨g, 0, none⟩ u0).setCell ⟨g, 1, none⟩ u1).setCell ⟨g, 2, none⟩ u2).setCell ⟨g, 3, none⟩ u3).setCell ⟨g, 4, none⟩ u4).setCell ⟨g, 5, none⟩ u5).setCell ⟨g, 6, none⟩ u6).heap[g]? = some (.cells #[u0, u1, u2, u3, u4, u5, u6] T (0, 0)) := by
  have s0 : Blk (w5.setCell ⟨g, 0, none⟩ u0) g T #[u0, a1, a2, a3, a4, a5, a6] := k.set_ 0 u0
  have s1 : Blk ((w5.setCell ⟨g, 0, none⟩ u0).setCell ⟨g, 1, none⟩ u1) g T #[u0, u1, a2, a3, a4, a5, a6] := s0.set_ 1 u1
  have s2 : Blk (((w5.setCell ⟨g, 0, none⟩ u0).setCell ⟨g, 1, none⟩ u1).setCell ⟨g, 2, none⟩ u2) g T #[u0, u1, u2, a3, a4, a5, a6] := s1.set_ 2 u2
  have s3 : Blk ((((w5.setCell ⟨g, 0, none⟩ u0).setCell ⟨g, 1, none⟩ u1).setCell ⟨g, 2, none⟩ u2).setCell ⟨g, 3, none⟩ u3) g T #[u0, u1, u2, u3, a4, a5, a6] := s2.set_ 3 u3
  have s4 : Blk (((((w5.setCell ⟨g, 0, none⟩ u0).setCell ⟨g, 1, none⟩ u1).setCell ⟨g, 2, none⟩ u2).setCell ⟨g, 3, none⟩ u3).setCell ⟨g, 4, none⟩ u4) g T #[u0, u1, u2, u3, u4, a5, a6] := s3.set_ 4 u4
  have s5 : Blk ((((((w5.setCell ⟨g, 0, none⟩ u0).setCell ⟨g, 1, none⟩ u1).setCell ⟨g, 2, none⟩ u2).setCell ⟨g, 3, none⟩ u3).setCell ⟨g, 4, none⟩ u4).setCell ⟨g, 5, none⟩ u5) g T #[u0, u1, u2, u3, u4, u5, a6] := s4.set_ 5 u5
  have s6 : Blk (((((((w5.setCell ⟨g, 0, none⟩ u0).setCell ⟨g, 1, none⟩ u1).setCell ⟨g, 2, none⟩ u2).setCell ⟨g, 3, none⟩ u3).setCell ⟨g, 4, none⟩ u4).setCell ⟨g, 5, none⟩ u5).setCell ⟨g, 6, none⟩ u6) g T #[u0, u1, u2, u3, u4, u5, u6] := s5.set_ 6 u6
  exact ⟨((((((hb.setCell (p := ⟨g, 0, none⟩) hg u0).setCell (p := ⟨g, 1, none⟩) hg u1).setCell (p := ⟨g, 2, none⟩) hg u2).setCell (p := ⟨g, 3, none⟩) hg u3).setCell (p := ⟨g, 4, none⟩) hg u4).setCell (p := ⟨g, 5, none⟩) hg u5).setCell (p := ⟨g, 6, none⟩) hg u6, s6⟩
/-- How a frame of a network goes out at a port. -/
def dressP (sp : Bool) (pv : Int) (f : Fr) (vid : Int) : Fr := if sp = true ∧ pv = vid then f.untag else f.tag vid f.prio
theorem asP_dress (l : List Po) (i : Int) (f : Fr) (k : Nat) : asP l i f k = dressP (l.getD k po0).sp (l.getD k po0).pv f (classP (l.getD i.toNat po0).pv f) := rfl
set_option maxHeartbeats 2000000 in
theorem dress_any (x : Px) (f : Fr) (vid : Int) (w : World) : Calls Try.prog 15 #[.agg #[.int .i64 x.st, .int .i64 x.pv, .bool x.sp, .slice x.A x.ms.length x.c], f.v, .int .i64 vid] w fun e w' => e = .returned ((dressP x.sp x.pv f vid).v) ∧ Below w.heap.size w w' := by
  have HU := Lib.hid (fun W => untag_any f W)
  have HT := Lib.hid (fun W => tag_any f vid f.prio W)
  obtain ⟨x0, x1, x2, xA, xc, xs⟩ := x
  obtain ⟨f0, f1, f2, f3, f4, f5, f6⟩ := f
  simp only [Fr.v, Fr.cells, Fr.untag, Fr.tag] at HU HT
  show Calls _ _ #[.agg #[.int .i64 x0, .int .i64 x1, .bool x2, .slice xA xs.length xc], .agg #[.int .i64 f0, .int .i64 f1, .bool f2, .int .i64 f3, .int .i64 f4, .int .i64 f5, .string f6], .int .i64 vid] w fun e w' => e = .returned ((dressP x2 x1 ⟨f0, f1, f2, f3, f4, f5, f6⟩ vid).v) ∧ Below w.heap.size w w'
  obtain ⟨W, hW⟩ : ∃ W, ((w.alloc (.cells #[.int .i64 x0, .int .i64 x1, .bool x2, .slice xA xs.length xc] 42)).alloc (.cells #[.int .i64 f0, .int .i64 f1, .bool f2, .int .i64 f3, .int .i64 f4, .int .i64 f5, .string f6] 24)).alloc (.cells #[.int .i64 0, .int .i64 0, .bool false, .int .i64 0, .int .i64 0, .int .i64 0, .string ⟨#[]⟩] 24) = W := ⟨_, rfl⟩
  have hr : Blk W (w.heap.size + 1 + 1) 24 #[.int .i64 0, .int .i64 0, .bool false, .int .i64 0, .int .i64 0, .int .i64 0, .string ⟨#[]⟩] := by
    rw [← hW]
    have := Blk.new ((w.alloc (.cells #[.int .i64 x0, .int .i64 x1, .bool x2, .slice xA xs.length xc] 42)).alloc (.cells #[.int .i64 f0, .int .i64 f1, .bool f2, .int .i64 f3, .int .i64 f4, .int .i64 f5, .string f6] 24)) 24 #[.int .i64 0, .int .i64 0, .bool false, .int .i64 0, .int .i64 0, .int .i64 0, .string ⟨#[]⟩]
    rwa [show ((w.alloc (.cells #[.int .i64 x0, .int .i64 x1, .bool x2, .slice xA xs.length xc] 42)).alloc (.cells #[.int .i64 f0, .int .i64 f1, .bool f2, .int .i64 f3, .int .i64 f4, .int .i64 f5, .string f6] 24)).heap.size = w.heap.size + 1 + 1 by simp] at this
  have hbW : Below w.heap.size w W := by
    rw [← hW]
    exact (bel_alloc2 w _ _).trans ((bel_alloc _ _).mono (by simp; omega))
  have hfb : Blk W (w.heap.size + 1) 24 #[.int .i64 f0, .int .i64 f1, .bool f2, .int .i64 f3, .int .i64 f4, .int .i64 f5, .string f6] := by
    rw [← hW]
    have := (Blk.new (w.alloc (.cells #[.int .i64 x0, .int .i64 x1, .bool x2, .slice xA xs.length xc] 42)) 24 #[.int .i64 f0, .int .i64 f1, .bool f2, .int .i64 f3, .int .i64 f4, .int .i64 f5, .string f6]).alloc (.cells #[.int .i64 0, .int .i64 0, .bool false, .int .i64 0, .int .i64 0, .int .i64 0, .string ⟨#[]⟩] 24)
    rwa [show (w.alloc (.cells #[.int .i64 x0, .int .i64 x1, .bool x2, .slice xA xs.length xc] 42)).heap.size = w.heap.size + 1 by simp] at this
  have hpb : Blk W w.heap.size 42 #[.int .i64 x0, .int .i64 x1, .bool x2, .slice xA xs.length xc] := by
    rw [← hW]
    exact ((Blk.new w 42 #[.int .i64 x0, .int .i64 x1, .bool x2, .slice xA xs.length xc]).alloc _).alloc _
  have p1 : W.cell? ⟨w.heap.size, 1, none⟩ = some (.int .i64 x1) := hpb.cell 1
  have p2 : W.cell? ⟨w.heap.size, 2, none⟩ = some (.bool x2) := hpb.cell 2
  have q0 : W.cell? ⟨w.heap.size + 1, 0, none⟩ = some (.int .i64 f0) := hfb.cell 0
  have q1 : W.cell? ⟨w.heap.size + 1, 1, none⟩ = some (.int .i64 f1) := hfb.cell 1
  have q2 : W.cell? ⟨w.heap.size + 1, 2, none⟩ = some (.bool f2) := hfb.cell 2
  have q3 : W.cell? ⟨w.heap.size + 1, 3, none⟩ = some (.int .i64 f3) := hfb.cell 3
  have q4 : W.cell? ⟨w.heap.size + 1, 4, none⟩ = some (.int .i64 f4) := hfb.cell 4
  have q5 : W.cell? ⟨w.heap.size + 1, 5, none⟩ = some (.int .i64 f5) := hfb.cell 5
  have q6 : W.cell? ⟨w.heap.size + 1, 6, none⟩ = some (.string f6) := hfb.cell 6
  have HW := Lib.hid (And.intro hr hbW)
  have HE := fun (g3 : Int) (g4 : Int) (g2 : Bool) (w5 : World) (b5 : Below W.heap.size W w5) => Lib.hid (put7_ret (hbW.trans (b5.mono hbW.size)) (by omega : w.heap.size ≤ w.heap.size + 1 + 1) (hr.below b5 hr.lt) (.int .i64 f0) (.int .i64 f1) (.bool g2) (.int .i64 g3) (.int .i64 g4) (.int .i64 f5) (.string f6))
  have HE := Lib.hid HE
  have HK := Lib.hid (fun (w5 : World) (b5 : Below W.heap.size W w5) => hr.below b5 hr.lt)
  have h1 : x2 = true → x1 = vid → dressP x2 x1 ⟨f0, f1, f2, f3, f4, f5, f6⟩ vid = ⟨f0, f1, false, 0, 0, f5, f6⟩ := fun h h' => if_pos ⟨h, h'⟩
  have h0 : ¬ (x2 = true ∧ x1 = vid) → dressP x2 x1 ⟨f0, f1, f2, f3, f4, f5, f6⟩ vid = ⟨f0, f1, true, vid, f4, f5, f6⟩ := fun h => if_neg h
  cases x2 with
  | false =>
    rw [h0 (fun h => by cases h.1)]
    clear h0 h1
    go_enter Try.func15, Try.ntmps15
    go_wp2_with fail
    refine (HT.out _).mono ?_
    rintro e w5 ⟨rfl, b5⟩
    have k2 := HK.out w5 b5
    have z0 := k2.frozen 0
    have z1 := k2.frozen 1
    have z2 := k2.frozen 2
    have z3 := k2.frozen 3
    have z4 := k2.frozen 4
    have z5 := k2.frozen 5
    have z6 := k2.frozen 6
    have r0 : w5.cell? ⟨w.heap.size + 1 + 1, 0, none⟩ = some (.int .i64 0) := k2.cell 0
    have r1 : w5.cell? ⟨w.heap.size + 1 + 1, 1, none⟩ = some (.int .i64 0) := k2.cell 1
    have r2 : w5.cell? ⟨w.heap.size + 1 + 1, 2, none⟩ = some (.bool false) := k2.cell 2
    have r3 : w5.cell? ⟨w.heap.size + 1 + 1, 3, none⟩ = some (.int .i64 0) := k2.cell 3
    have r4 : w5.cell? ⟨w.heap.size + 1 + 1, 4, none⟩ = some (.int .i64 0) := k2.cell 4
    have r5 : w5.cell? ⟨w.heap.size + 1 + 1, 5, none⟩ = some (.int .i64 0) := k2.cell 5
    have r6 : w5.cell? ⟨w.heap.size + 1 + 1, 6, none⟩ = some (.string ⟨#[]⟩) := k2.cell 6
    have HE5 := HE.out vid f4 true w5 b5
    clear k2 b5 p1 p2 q0 q1 q2 q3 q4 q5 q6 hr hfb hpb hbW
    go_wp2_with fail
    exact bodyPost_ret (results_cell_row rfl _ _ (w.heap.size + 1 + 1) 24 _ (0, 0) _ rfl HE5.out.2 Try.underlying24 rfl fr_info) rfl ⟨rfl, HE5.out.1⟩
  | true =>
   by_cases hv : x1 = vid
   · rw [h1 rfl hv]
     subst hv
     clear h0 h1
     go_enter Try.func15, Try.ntmps15
     go_wp2_with fail
     refine (HU.out _).mono ?_
     rintro e w5 ⟨rfl, b5⟩
     have k2 := HK.out w5 b5
     have z0 := k2.frozen 0
     have z1 := k2.frozen 1
     have z2 := k2.frozen 2
     have z3 := k2.frozen 3
     have z4 := k2.frozen 4
     have z5 := k2.frozen 5
     have z6 := k2.frozen 6
     have r0 : w5.cell? ⟨w.heap.size + 1 + 1, 0, none⟩ = some (.int .i64 0) := k2.cell 0
     have r1 : w5.cell? ⟨w.heap.size + 1 + 1, 1, none⟩ = some (.int .i64 0) := k2.cell 1
     have r2 : w5.cell? ⟨w.heap.size + 1 + 1, 2, none⟩ = some (.bool false) := k2.cell 2
     have r3 : w5.cell? ⟨w.heap.size + 1 + 1, 3, none⟩ = some (.int .i64 0) := k2.cell 3
     have r4 : w5.cell? ⟨w.heap.size + 1 + 1, 4, none⟩ = some (.int .i64 0) := k2.cell 4
     have r5 : w5.cell? ⟨w.heap.size + 1 + 1, 5, none⟩ = some (.int .i64 0) := k2.cell 5
     have r6 : w5.cell? ⟨w.heap.size + 1 + 1, 6, none⟩ = some (.string ⟨#[]⟩) := k2.cell 6
     have HE5 := HE.out 0 0 false w5 b5
     clear k2 b5 p1 p2 q0 q1 q2 q3 q4 q5 q6 hr hfb hpb hbW
     go_wp2_with fail
     exact bodyPost_ret (results_cell_row rfl _ _ (w.heap.size + 1 + 1) 24 _ (0, 0) _ rfl HE5.out.2 Try.underlying24 rfl fr_info) rfl ⟨rfl, HE5.out.1⟩
   · rw [h0 (fun h => hv h.2)]
     have hv' : (x1 == vid) = false := by rw [beq_eq_false_iff_ne]; exact hv
     clear h0 h1 hv
     go_enter Try.func15, Try.ntmps15
     go_wp2_with fail
     refine (HT.out _).mono ?_
     rintro e w5 ⟨rfl, b5⟩
     have k2 := HK.out w5 b5
     have z0 := k2.frozen 0
     have z1 := k2.frozen 1
     have z2 := k2.frozen 2
     have z3 := k2.frozen 3
     have z4 := k2.frozen 4
     have z5 := k2.frozen 5
     have z6 := k2.frozen 6
     have r0 : w5.cell? ⟨w.heap.size + 1 + 1, 0, none⟩ = some (.int .i64 0) := k2.cell 0
     have r1 : w5.cell? ⟨w.heap.size + 1 + 1, 1, none⟩ = some (.int .i64 0) := k2.cell 1
     have r2 : w5.cell? ⟨w.heap.size + 1 + 1, 2, none⟩ = some (.bool false) := k2.cell 2
     have r3 : w5.cell? ⟨w.heap.size + 1 + 1, 3, none⟩ = some (.int .i64 0) := k2.cell 3
     have r4 : w5.cell? ⟨w.heap.size + 1 + 1, 4, none⟩ = some (.int .i64 0) := k2.cell 4
     have r5 : w5.cell? ⟨w.heap.size + 1 + 1, 5, none⟩ = some (.int .i64 0) := k2.cell 5
     have r6 : w5.cell? ⟨w.heap.size + 1 + 1, 6, none⟩ = some (.string ⟨#[]⟩) := k2.cell 6
     have HE5 := HE.out vid f4 true w5 b5
     clear k2 b5 p1 p2 q0 q1 q2 q3 q4 q5 q6 hr hfb hpb hbW
     go_wp2_with fail
     exact bodyPost_ret (results_cell_row rfl _ _ (w.heap.size + 1 + 1) 24 _ (0, 0) _ rfl HE5.out.2 Try.underlying24 rfl fr_info) rfl ⟨rfl, HE5.out.1⟩
end Go.Proofs.Ytnhnllkcnpbgoaa
