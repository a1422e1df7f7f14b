/- PrioOrder: for every input the law returns true. -/
import Derived.Test.YtogghcbijdljkaaVopen
namespace Go.Proofs.Ytogghcbijdljkaa
open Go.ChangeShapes Go.WideShapes Go.ChangeAt Go.RowKit

theorem cmpV_mix {a b c : Vec} (h1 : cmpV a b ≤ 0) (h2 : cmpV b c ≤ 0) : cmpV a c ≤ 0 := by
  have k1 : ¬ ltV b a := fun h => by have := (cmpV_lt b a).2 h; rw [cmpV_swap] at this; omega
  have k2 : ¬ ltV c b := fun h => by have := (cmpV_lt c b).2 h; rw [cmpV_swap] at this; omega
  have k3 := leV_trans k1 k2
  have k4 : ¬ cmpV c a < 0 := fun h => k3 ((cmpV_lt c a).1 h)
  rw [cmpV_swap] at k4
  omega
/-- What the law finds, for given answers. -/
structure Ans (a b c : Vec) (x y z : Int) (B : Bool) : Prop where
  c1 : ∀ w, Calls Try.prog 26 #[a.v, b.v] w fun e w' => e = .returned (.int .i64 x) ∧ Below w.heap.size w w'
  c2 : ∀ w, Calls Try.prog 26 #[b.v, c.v] w fun e w' => e = .returned (.int .i64 y) ∧ Below w.heap.size w w'
  c3 : ∀ w, Calls Try.prog 26 #[a.v, c.v] w fun e w' => e = .returned (.int .i64 z) ∧ Below w.heap.size w w'
  c4 : ∀ w, Calls Try.prog 26 #[b.v, a.v] w fun e w' => e = .returned (.int .i64 (-x)) ∧ Below w.heap.size w w'
  c5 : ∀ w, Calls Try.prog 27 #[a.v, b.v] w fun e w' => e = .returned (.bool B) ∧ Below w.heap.size w w'
  c6 : ∀ w, Calls Try.prog 28 #[a.v, b.v] w fun e w' => e = .returned (.bool B) ∧ Below w.heap.size w w'
theorem Ans.of (a b c : Vec) {x y z : Int} {B : Bool} (hx : cmpV a b = x) (hy : cmpV b c = y) (hz : cmpV a c = z) (hB : decide (ltV a b) = B) : Ans a b c x y z B :=
  ⟨fun w => hx ▸ compare_any a b w, fun w => hy ▸ compare_any b c w, fun w => hz ▸ compare_any a c w, fun w => by have := compare_any b a w; rw [cmpV_swap a b, hx] at this; exact this, fun w => hB ▸ rbetter_any a b w, fun w => hB ▸ better_any a b w⟩
/-- The vectors, boxed, as the walk has them. -/
structure Boxed (W w : World) (a b c : Vec) : Prop where
  b1 : Blk w W.heap.size 49 a.arr
  b2 : Blk w (W.heap.size + 1) 49 b.arr
  b3 : Blk w (W.heap.size + 1 + 1) 49 c.arr
  bel : Below W.heap.size W w
theorem Boxed.go {W w w' : World} {a b c : Vec} (h : Boxed W w a b c) (hb : Below w.heap.size w w') : Boxed W w' a b c :=
  ⟨h.b1.below hb h.b1.lt, h.b2.below hb h.b2.lt, h.b3.below hb h.b3.lt, h.bel.trans (hb.mono h.bel.size)⟩
theorem Boxed.drew {W w : World} {a b c : Vec} (h : Boxed W w a b c) : Boxed W w.drew a b c := ⟨h.b1, h.b2, h.b3, h.bel.drew⟩
theorem Boxed.new (W : World) (a b c : Vec) : Boxed W (((W.alloc (.cells a.arr 49)).alloc (.cells b.arr 49)).alloc (.cells c.arr 49)) a b c := by
  have h3 := vec_new (W.alloc (.cells a.arr 49)) (.cells b.arr 49) c.arr
  rw [show (W.alloc (.cells a.arr 49)).heap.size = W.heap.size + 1 by simp] at h3
  exact ⟨((Blk.new W _ _).alloc _).alloc _, (vec_new W _ _).alloc _, h3, (bel_alloc2 W _ _).alloc (bel_alloc2 W _ _).size _⟩
theorem Boxed.cells {W w : World} {a b c : Vec} (h : Boxed W w a b c) :
    w.cell? ⟨W.heap.size, 0, none⟩ = some (.int .i64 a.root) ∧ w.cell? ⟨W.heap.size, 1, none⟩ = some (.int .i64 a.cost) ∧ w.cell? ⟨W.heap.size, 2, none⟩ = some (.int .i64 a.bridge) ∧ w.cell? ⟨W.heap.size, 3, none⟩ = some (.int .i64 a.port) ∧
    w.cell? ⟨W.heap.size + 1, 0, none⟩ = some (.int .i64 b.root) ∧ w.cell? ⟨W.heap.size + 1, 1, none⟩ = some (.int .i64 b.cost) ∧ w.cell? ⟨W.heap.size + 1, 2, none⟩ = some (.int .i64 b.bridge) ∧ w.cell? ⟨W.heap.size + 1, 3, none⟩ = some (.int .i64 b.port) ∧
    w.cell? ⟨W.heap.size + 1 + 1, 0, none⟩ = some (.int .i64 c.root) ∧ w.cell? ⟨W.heap.size + 1 + 1, 1, none⟩ = some (.int .i64 c.cost) ∧ w.cell? ⟨W.heap.size + 1 + 1, 2, none⟩ = some (.int .i64 c.bridge) ∧ w.cell? ⟨W.heap.size + 1 + 1, 3, none⟩ = some (.int .i64 c.port) :=
  ⟨h.b1.cell 0, h.b1.cell 1, h.b1.cell 2, h.b1.cell 3, h.b2.cell 0, h.b2.cell 1, h.b2.cell 2, h.b2.cell 3, h.b3.cell 0, h.b3.cell 1, h.b3.cell 2, h.b3.cell 3⟩

set_option maxRecDepth 100000 in
set_option maxHeartbeats 4000000 in
theorem walkPrioOrder (a b c : Vec) (w : World) (_h0 : a.ok) (_h1 : b.ok) (_h2 : c.ok) :
    Calls Try.prog 6 #[a.v, b.v, c.v] w fun e w' => e = .returned (.bool true) ∧ Below w.heap.size w w' := by
  have HAL := Lib.hid (alive_any (((w.alloc (.cells a.arr 49)).alloc (.cells b.arr 49)).alloc (.cells c.arr 49)))
  have HBX := Lib.hid (Boxed.new w a b c)
  obtain ⟨x, hx⟩ : ∃ x, cmpV a b = x := ⟨_, rfl⟩
  obtain ⟨y, hy⟩ : ∃ y, cmpV b c = y := ⟨_, rfl⟩
  obtain ⟨z, hz⟩ : ∃ z, cmpV a c = z := ⟨_, rfl⟩
  obtain ⟨B, hB⟩ : ∃ B, decide (ltV a b) = B := ⟨_, rfl⟩
  have hA := Ans.of a b c hx hy hz hB
  have hmix : x ≤ 0 → y ≤ 0 → z ≤ 0 := fun h1 h2 => by subst hx hy hz; exact cmpV_mix h1 h2
  have hone : -1 ≤ x ∧ x ≤ 1 := by subst hx; exact cmpV_one a b
  have hBx : B = decide (x < 0) := by rw [← hB, ← hx]; exact decide_eq_decide.2 (cmpV_lt a b).symm
  have hzero := cmpV_zero a b
  rw [hx] at hzero
  clear hx hy hz hB
  obtain ⟨C1, C2, C3, C4, C5, C6⟩ := hA
  rcases (show x = -1 ∨ x = 0 ∨ x = 1 by omega) with rfl | rfl | rfl
  · obtain rfl : B = true := hBx
    have hne : a ≠ b := fun h => absurd (hzero.2 h) (by decide)
    clear hone hzero
    by_cases hy : 0 < y
    · clear hmix
      have C1 := Lib.hid C1; have C2 := Lib.hid C2; have C3 := Lib.hid C3; have C4 := Lib.hid C4; have C5 := Lib.hid C5; have C6 := Lib.hid C6

      simp only [Vec.v, Vec.arr] at C1 C2 C3 C4 C5 C6 ⊢
      go_enter Try.func6, Try.ntmps6
      go_wp2_with fail
      refine HAL.out.mono ?_
      rintro e w1 ⟨rfl, b1⟩
      have H0 := Lib.hid ((HBX.out.go b1).drew)
      clear b1
      go_wp2_with fail
      go_region_held3 (fun w' => w'.cell? ⟨w.heap.size, 0, none⟩ = some (.int .i64 a.root) ∧ w'.cell? ⟨w.heap.size, 1, none⟩ = some (.int .i64 a.cost) ∧ w'.cell? ⟨w.heap.size, 2, none⟩ = some (.int .i64 a.bridge) ∧ w'.cell? ⟨w.heap.size, 3, none⟩ = some (.int .i64 a.port) ∧ w'.cell? ⟨w.heap.size + 1, 0, none⟩ = some (.int .i64 b.root) ∧ w'.cell? ⟨w.heap.size + 1, 1, none⟩ = some (.int .i64 b.cost) ∧ w'.cell? ⟨w.heap.size + 1, 2, none⟩ = some (.int .i64 b.bridge) ∧ w'.cell? ⟨w.heap.size + 1, 3, none⟩ = some (.int .i64 b.port) ∧ w'.cell? ⟨w.heap.size + 1 + 1, 0, none⟩ = some (.int .i64 c.root) ∧ w'.cell? ⟨w.heap.size + 1 + 1, 1, none⟩ = some (.int .i64 c.cost) ∧ w'.cell? ⟨w.heap.size + 1 + 1, 2, none⟩ = some (.int .i64 c.bridge) ∧ w'.cell? ⟨w.heap.size + 1 + 1, 3, none⟩ = some (.int .i64 c.port))
        (first | exact H3.out.cells | exact H2.out.cells | exact H1.out.cells | exact H0.out.cells)
        (first
          | (go_at_call 26; (with_reducible (refine (C1.out _).mono ?_)); rintro e w2 ⟨rfl, b2⟩; have H1 := Lib.hid (H0.out.go b2))
          | (go_at_call 26; (with_reducible (refine (C2.out _).mono ?_)); rintro e w3 ⟨rfl, b3⟩; have H2 := Lib.hid (H1.out.go b3))
          | (go_at_call 26; (with_reducible (refine (C3.out _).mono ?_)); rintro e w4 ⟨rfl, b4⟩; have H3 := Lib.hid (H2.out.go b4)))
      all_goals
        clear b2 b3 b4
        obtain ⟨p0, p1, p2, p3, q0, q1, q2, q3, r0, r1, r2, r3⟩ := H3.out.cells
        go_wp2_with fail
        refine (C5.out _).mono ?_
        rintro e w5 ⟨rfl, b⟩
        have H4 := Lib.hid (H3.out.go b)
        clear b p0 p1 p2 p3 q0 q1 q2 q3 r0 r1 r2 r3
        obtain ⟨p0, p1, p2, p3, q0, q1, q2, q3, r0, r1, r2, r3⟩ := H4.out.cells
        go_wp2_with fail
        refine (C6.out _).mono ?_
        rintro e w6 ⟨rfl, b⟩
        have H5 := Lib.hid (H4.out.go b)
        clear b p0 p1 p2 p3 q0 q1 q2 q3 r0 r1 r2 r3
        obtain ⟨p0, p1, p2, p3, q0, q1, q2, q3, r0, r1, r2, r3⟩ := H5.out.cells
        go_wp2_with fail
        refine (C4.out _).mono ?_
        rintro e w7 ⟨rfl, b⟩
        have H6 := Lib.hid (H5.out.go b)
        clear b p0 p1 p2 p3 q0 q1 q2 q3 r0 r1 r2 r3
        obtain ⟨p0, p1, p2, p3, q0, q1, q2, q3, r0, r1, r2, r3⟩ := H6.out.cells
        go_wp2_with fail
        all_goals first | (exfalso; exact hne (Vec.ext4 (by assumption) (by assumption) (by assumption) (by assumption))) | (go_ret; exact ⟨rfl, H6.out.bel⟩)
    · have hz : z ≤ 0 := hmix (by decide) (by omega)
      have hy' : y ≤ 0 := by omega
      clear hmix hy
      have C1 := Lib.hid C1; have C2 := Lib.hid C2; have C3 := Lib.hid C3; have C4 := Lib.hid C4; have C5 := Lib.hid C5; have C6 := Lib.hid C6
      simp only [Vec.v, Vec.arr] at C1 C2 C3 C4 C5 C6 ⊢
      go_enter Try.func6, Try.ntmps6
      go_wp2_with fail
      refine HAL.out.mono ?_
      rintro e w1 ⟨rfl, b1⟩
      have H0 := Lib.hid ((HBX.out.go b1).drew)
      clear b1
      go_wp2_with fail
      go_region_held3 (fun w' => w'.cell? ⟨w.heap.size, 0, none⟩ = some (.int .i64 a.root) ∧ w'.cell? ⟨w.heap.size, 1, none⟩ = some (.int .i64 a.cost) ∧ w'.cell? ⟨w.heap.size, 2, none⟩ = some (.int .i64 a.bridge) ∧ w'.cell? ⟨w.heap.size, 3, none⟩ = some (.int .i64 a.port) ∧ w'.cell? ⟨w.heap.size + 1, 0, none⟩ = some (.int .i64 b.root) ∧ w'.cell? ⟨w.heap.size + 1, 1, none⟩ = some (.int .i64 b.cost) ∧ w'.cell? ⟨w.heap.size + 1, 2, none⟩ = some (.int .i64 b.bridge) ∧ w'.cell? ⟨w.heap.size + 1, 3, none⟩ = some (.int .i64 b.port) ∧ w'.cell? ⟨w.heap.size + 1 + 1, 0, none⟩ = some (.int .i64 c.root) ∧ w'.cell? ⟨w.heap.size + 1 + 1, 1, none⟩ = some (.int .i64 c.cost) ∧ w'.cell? ⟨w.heap.size + 1 + 1, 2, none⟩ = some (.int .i64 c.bridge) ∧ w'.cell? ⟨w.heap.size + 1 + 1, 3, none⟩ = some (.int .i64 c.port))
        (first | exact H3.out.cells | exact H2.out.cells | exact H1.out.cells | exact H0.out.cells)
        (first
          | (go_at_call 26; (with_reducible (refine (C1.out _).mono ?_)); rintro e w2 ⟨rfl, b2⟩; have H1 := Lib.hid (H0.out.go b2))
          | (go_at_call 26; (with_reducible (refine (C2.out _).mono ?_)); rintro e w3 ⟨rfl, b3⟩; have H2 := Lib.hid (H1.out.go b3))
          | (go_at_call 26; (with_reducible (refine (C3.out _).mono ?_)); rintro e w4 ⟨rfl, b4⟩; have H3 := Lib.hid (H2.out.go b4)))
      all_goals
        clear b2 b3 b4
        obtain ⟨p0, p1, p2, p3, q0, q1, q2, q3, r0, r1, r2, r3⟩ := H3.out.cells
        go_wp2_with fail
        refine (C5.out _).mono ?_
        rintro e w5 ⟨rfl, b⟩
        have H4 := Lib.hid (H3.out.go b)
        clear b p0 p1 p2 p3 q0 q1 q2 q3 r0 r1 r2 r3
        obtain ⟨p0, p1, p2, p3, q0, q1, q2, q3, r0, r1, r2, r3⟩ := H4.out.cells
        go_wp2_with fail
        refine (C6.out _).mono ?_
        rintro e w6 ⟨rfl, b⟩
        have H5 := Lib.hid (H4.out.go b)
        clear b p0 p1 p2 p3 q0 q1 q2 q3 r0 r1 r2 r3
        obtain ⟨p0, p1, p2, p3, q0, q1, q2, q3, r0, r1, r2, r3⟩ := H5.out.cells
        go_wp2_with fail
        refine (C4.out _).mono ?_
        rintro e w7 ⟨rfl, b⟩
        have H6 := Lib.hid (H5.out.go b)
        clear b p0 p1 p2 p3 q0 q1 q2 q3 r0 r1 r2 r3
        obtain ⟨p0, p1, p2, p3, q0, q1, q2, q3, r0, r1, r2, r3⟩ := H6.out.cells
        go_wp2_with fail
        all_goals first | (exfalso; exact hne (Vec.ext4 (by assumption) (by assumption) (by assumption) (by assumption))) | (go_ret; exact ⟨rfl, H6.out.bel⟩)
  · obtain rfl : B = false := hBx
    obtain rfl : b = a := (hzero.1 rfl).symm
    have hne : True := trivial
    clear hone hzero
    by_cases hy : 0 < y
    · clear hmix
      have C1 := Lib.hid C1; have C2 := Lib.hid C2; have C3 := Lib.hid C3; have C4 := Lib.hid C4; have C5 := Lib.hid C5; have C6 := Lib.hid C6
      simp only [Vec.v, Vec.arr] at C1 C2 C3 C4 C5 C6 ⊢
      go_enter Try.func6, Try.ntmps6
      go_wp2_with fail
      refine HAL.out.mono ?_
      rintro e w1 ⟨rfl, b1⟩
      have H0 := Lib.hid ((HBX.out.go b1).drew)
      clear b1
      go_wp2_with fail
      go_region_held3 (fun w' => w'.cell? ⟨w.heap.size, 0, none⟩ = some (.int .i64 b.root) ∧ w'.cell? ⟨w.heap.size, 1, none⟩ = some (.int .i64 b.cost) ∧ w'.cell? ⟨w.heap.size, 2, none⟩ = some (.int .i64 b.bridge) ∧ w'.cell? ⟨w.heap.size, 3, none⟩ = some (.int .i64 b.port) ∧ w'.cell? ⟨w.heap.size + 1, 0, none⟩ = some (.int .i64 b.root) ∧ w'.cell? ⟨w.heap.size + 1, 1, none⟩ = some (.int .i64 b.cost) ∧ w'.cell? ⟨w.heap.size + 1, 2, none⟩ = some (.int .i64 b.bridge) ∧ w'.cell? ⟨w.heap.size + 1, 3, none⟩ = some (.int .i64 b.port) ∧ w'.cell? ⟨w.heap.size + 1 + 1, 0, none⟩ = some (.int .i64 c.root) ∧ w'.cell? ⟨w.heap.size + 1 + 1, 1, none⟩ = some (.int .i64 c.cost) ∧ w'.cell? ⟨w.heap.size + 1 + 1, 2, none⟩ = some (.int .i64 c.bridge) ∧ w'.cell? ⟨w.heap.size + 1 + 1, 3, none⟩ = some (.int .i64 c.port))
        (first | exact H3.out.cells | exact H2.out.cells | exact H1.out.cells | exact H0.out.cells)
        (first
          | (go_at_call 26; (with_reducible (refine (C1.out _).mono ?_)); rintro e w2 ⟨rfl, b2⟩; have H1 := Lib.hid (H0.out.go b2))
          | (go_at_call 26; (with_reducible (refine (C2.out _).mono ?_)); rintro e w3 ⟨rfl, b3⟩; have H2 := Lib.hid (H1.out.go b3))
          | (go_at_call 26; (with_reducible (refine (C3.out _).mono ?_)); rintro e w4 ⟨rfl, b4⟩; have H3 := Lib.hid (H2.out.go b4)))
      all_goals
        clear b2 b3 b4
        obtain ⟨p0, p1, p2, p3, q0, q1, q2, q3, r0, r1, r2, r3⟩ := H3.out.cells
        go_wp2_with fail
        refine (C5.out _).mono ?_
        rintro e w5 ⟨rfl, b⟩
        have H4 := Lib.hid (H3.out.go b)
        clear b p0 p1 p2 p3 q0 q1 q2 q3 r0 r1 r2 r3
        obtain ⟨p0, p1, p2, p3, q0, q1, q2, q3, r0, r1, r2, r3⟩ := H4.out.cells
        go_wp2_with fail
        refine (C6.out _).mono ?_
        rintro e w6 ⟨rfl, b⟩
        have H5 := Lib.hid (H4.out.go b)
        clear b p0 p1 p2 p3 q0 q1 q2 q3 r0 r1 r2 r3
        obtain ⟨p0, p1, p2, p3, q0, q1, q2, q3, r0, r1, r2, r3⟩ := H5.out.cells
        go_wp2_with fail
        refine (C4.out _).mono ?_
        rintro e w7 ⟨rfl, b⟩
        have H6 := Lib.hid (H5.out.go b)
        clear b p0 p1 p2 p3 q0 q1 q2 q3 r0 r1 r2 r3
        obtain ⟨p0, p1, p2, p3, q0, q1, q2, q3, r0, r1, r2, r3⟩ := H6.out.cells
        go_wp2_with fail
        all_goals first | (exfalso; exact hne (Vec.ext4 (by assumption) (by assumption) (by assumption) (by assumption))) | (go_ret; exact ⟨rfl, H6.out.bel⟩)
    · have hz : z ≤ 0 := hmix (by decide) (by omega)
      have hy' : y ≤ 0 := by omega
      clear hmix hy
      have C1 := Lib.hid C1; have C2 := Lib.hid C2; have C3 := Lib.hid C3; have C4 := Lib.hid C4; have C5 := Lib.hid C5; have C6 := Lib.hid C6
      simp only [Vec.v, Vec.arr] at C1 C2 C3 C4 C5 C6 ⊢
      go_enter Try.func6, Try.ntmps6
      go_wp2_with fail
      refine HAL.out.mono ?_
      rintro e w1 ⟨rfl, b1⟩
      have H0 := Lib.hid ((HBX.out.go b1).drew)
      clear b1
      go_wp2_with fail
      go_region_held3 (fun w' => w'.cell? ⟨w.heap.size, 0, none⟩ = some (.int .i64 b.root) ∧ w'.cell? ⟨w.heap.size, 1, none⟩ = some (.int .i64 b.cost) ∧ w'.cell? ⟨w.heap.size, 2, none⟩ = some (.int .i64 b.bridge) ∧ w'.cell? ⟨w.heap.size, 3, none⟩ = some (.int .i64 b.port) ∧ w'.cell? ⟨w.heap.size + 1, 0, none⟩ = some (.int .i64 b.root) ∧ w'.cell? ⟨w.heap.size + 1, 1, none⟩ = some (.int .i64 b.cost) ∧ w'.cell? ⟨w.heap.size + 1, 2, none⟩ = some (.int .i64 b.bridge) ∧ w'.cell? ⟨w.heap.size + 1, 3, none⟩ = some (.int .i64 b.port) ∧ w'.cell? ⟨w.heap.size + 1 + 1, 0, none⟩ = some (.int .i64 c.root) ∧ w'.cell? ⟨w.heap.size + 1 + 1, 1, none⟩ = some (.int .i64 c.cost) ∧ w'.cell? ⟨w.heap.size + 1 + 1, 2, none⟩ = some (.int .i64 c.bridge) ∧ w'.cell? ⟨w.heap.size + 1 + 1, 3, none⟩ = some (.int .i64 c.port))
        (first | exact H3.out.cells | exact H2.out.cells | exact H1.out.cells | exact H0.out.cells)
        (first
          | (go_at_call 26; (with_reducible (refine (C1.out _).mono ?_)); rintro e w2 ⟨rfl, b2⟩; have H1 := Lib.hid (H0.out.go b2))
          | (go_at_call 26; (with_reducible (refine (C2.out _).mono ?_)); rintro e w3 ⟨rfl, b3⟩; have H2 := Lib.hid (H1.out.go b3))
          | (go_at_call 26; (with_reducible (refine (C3.out _).mono ?_)); rintro e w4 ⟨rfl, b4⟩; have H3 := Lib.hid (H2.out.go b4)))
      all_goals
        clear b2 b3 b4
        obtain ⟨p0, p1, p2, p3, q0, q1, q2, q3, r0, r1, r2, r3⟩ := H3.out.cells
        go_wp2_with fail
        refine (C5.out _).mono ?_
        rintro e w5 ⟨rfl, b⟩
        have H4 := Lib.hid (H3.out.go b)
        clear b p0 p1 p2 p3 q0 q1 q2 q3 r0 r1 r2 r3
        obtain ⟨p0, p1, p2, p3, q0, q1, q2, q3, r0, r1, r2, r3⟩ := H4.out.cells
        go_wp2_with fail
        refine (C6.out _).mono ?_
        rintro e w6 ⟨rfl, b⟩
        have H5 := Lib.hid (H4.out.go b)
        clear b p0 p1 p2 p3 q0 q1 q2 q3 r0 r1 r2 r3
        obtain ⟨p0, p1, p2, p3, q0, q1, q2, q3, r0, r1, r2, r3⟩ := H5.out.cells
        go_wp2_with fail
        refine (C4.out _).mono ?_
        rintro e w7 ⟨rfl, b⟩
        have H6 := Lib.hid (H5.out.go b)
        clear b p0 p1 p2 p3 q0 q1 q2 q3 r0 r1 r2 r3
        obtain ⟨p0, p1, p2, p3, q0, q1, q2, q3, r0, r1, r2, r3⟩ := H6.out.cells
        go_wp2_with fail
        all_goals first | (exfalso; exact hne (Vec.ext4 (by assumption) (by assumption) (by assumption) (by assumption))) | (go_ret; exact ⟨rfl, H6.out.bel⟩)
  · obtain rfl : B = false := hBx
    have hne : a ≠ b := fun h => absurd (hzero.2 h) (by decide)
    clear hone hzero hmix
    have C1 := Lib.hid C1; have C2 := Lib.hid C2; have C3 := Lib.hid C3; have C4 := Lib.hid C4; have C5 := Lib.hid C5; have C6 := Lib.hid C6
    simp only [Vec.v, Vec.arr] at C1 C2 C3 C4 C5 C6 ⊢
    go_enter Try.func6, Try.ntmps6
    go_wp2_with fail
    refine HAL.out.mono ?_
    rintro e w1 ⟨rfl, b1⟩
    have H0 := Lib.hid ((HBX.out.go b1).drew)
    clear b1
    go_wp2_with fail
    go_region_held3 (fun w' => w'.cell? ⟨w.heap.size, 0, none⟩ = some (.int .i64 a.root) ∧ w'.cell? ⟨w.heap.size, 1, none⟩ = some (.int .i64 a.cost) ∧ w'.cell? ⟨w.heap.size, 2, none⟩ = some (.int .i64 a.bridge) ∧ w'.cell? ⟨w.heap.size, 3, none⟩ = some (.int .i64 a.port) ∧ w'.cell? ⟨w.heap.size + 1, 0, none⟩ = some (.int .i64 b.root) ∧ w'.cell? ⟨w.heap.size + 1, 1, none⟩ = some (.int .i64 b.cost) ∧ w'.cell? ⟨w.heap.size + 1, 2, none⟩ = some (.int .i64 b.bridge) ∧ w'.cell? ⟨w.heap.size + 1, 3, none⟩ = some (.int .i64 b.port) ∧ w'.cell? ⟨w.heap.size + 1 + 1, 0, none⟩ = some (.int .i64 c.root) ∧ w'.cell? ⟨w.heap.size + 1 + 1, 1, none⟩ = some (.int .i64 c.cost) ∧ w'.cell? ⟨w.heap.size + 1 + 1, 2, none⟩ = some (.int .i64 c.bridge) ∧ w'.cell? ⟨w.heap.size + 1 + 1, 3, none⟩ = some (.int .i64 c.port))
      (first | exact H3.out.cells | exact H2.out.cells | exact H1.out.cells | exact H0.out.cells)
      (first
        | (go_at_call 26; (with_reducible (refine (C1.out _).mono ?_)); rintro e w2 ⟨rfl, b2⟩; have H1 := Lib.hid (H0.out.go b2))
        | (go_at_call 26; (with_reducible (refine (C2.out _).mono ?_)); rintro e w3 ⟨rfl, b3⟩; have H2 := Lib.hid (H1.out.go b3))
        | (go_at_call 26; (with_reducible (refine (C3.out _).mono ?_)); rintro e w4 ⟨rfl, b4⟩; have H3 := Lib.hid (H2.out.go b4)))
    all_goals
      clear b2 b3 b4
      obtain ⟨p0, p1, p2, p3, q0, q1, q2, q3, r0, r1, r2, r3⟩ := H3.out.cells
      go_wp2_with fail
      refine (C5.out _).mono ?_
      rintro e w5 ⟨rfl, b⟩
      have H4 := Lib.hid (H3.out.go b)
      clear b p0 p1 p2 p3 q0 q1 q2 q3 r0 r1 r2 r3
      obtain ⟨p0, p1, p2, p3, q0, q1, q2, q3, r0, r1, r2, r3⟩ := H4.out.cells
      go_wp2_with fail
      refine (C6.out _).mono ?_
      rintro e w6 ⟨rfl, b⟩
      have H5 := Lib.hid (H4.out.go b)
      clear b p0 p1 p2 p3 q0 q1 q2 q3 r0 r1 r2 r3
      obtain ⟨p0, p1, p2, p3, q0, q1, q2, q3, r0, r1, r2, r3⟩ := H5.out.cells
      go_wp2_with fail
      refine (C4.out _).mono ?_
      rintro e w7 ⟨rfl, b⟩
      have H6 := Lib.hid (H5.out.go b)
      clear b p0 p1 p2 p3 q0 q1 q2 q3 r0 r1 r2 r3
      obtain ⟨p0, p1, p2, p3, q0, q1, q2, q3, r0, r1, r2, r3⟩ := H6.out.cells
      go_wp2_with fail
      all_goals first | (exfalso; exact hne (Vec.ext4 (by assumption) (by assumption) (by assumption) (by assumption))) | (go_ret; exact ⟨rfl, H6.out.bel⟩)
set_option maxRecDepth 100000 in
theorem liftedPrioOrder (os : Os) (started : os.Started) (H : Type) (enc : TypeId × Value → H) :
    ReturnsInHanded {} Try.checked os 6 .any (Rows.prioOrderSpec.pre6 enc Try.prog Try.f6 Rows.prioOrderRow.domain false) (Rows.prioOrderSpec.post enc Try.prog Try.f6 false true false false) := by
  refine returnsInHanded_of_change (C := Try.checked) own started (by kernel_rfl) Try.func6
    (ChangeSpec.witness6 (enc := enc) (C := Try.checked) false ⟨#[], #[.agg #[.int .i64 0, .int .i64 0, .int .i64 0, .int .i64 0], .agg #[.int .i64 0, .int .i64 0, .int .i64 0, .int .i64 0], .agg #[.int .i64 0, .int .i64 0, .int .i64 0, .int .i64 0]], []⟩ 8 (by kernel_rfl) (by kernel_rfl) (by kernel_rfl) (by kernel_rfl)) ?_
  intro W base args ds gs before hval0 hW hcnd _
  have hval : ∀ (j : Nat) t v, Try.f6.params[j]? = some t → args[j]? = some v → Value.okWide Try.prog W .any base t v := hval0
  have hW' := hW
  obtain ⟨p, q, hA0, hV, rfl, hfz, hnd⟩ := hW
  have hA : DataW.TrodAll enc Try.prog W 0 (fun _ => true) true Try.f6.params.toList args.toList ds p := hA0
  rw [Try.params6] at hA hval
  obtain ⟨v0, vs0, d0, ds0, p0, q0, hargs, rfl, rfl, h0, r0⟩ := trodAll_cons hA
  obtain ⟨v1, vs1, d1, ds1, p1, q1, rfl, rfl, rfl, h1, r1⟩ := trodAll_cons r0
  obtain ⟨v2, vs2, d2, ds2, p2, q2, rfl, rfl, rfl, h2, r2⟩ := trodAll_cons r1
  obtain ⟨rfl, rfl, rfl⟩ := trodAll_nil r2
  obtain rfl : args = #[v0, v1, v2] := by cases args; simp_all
  obtain ⟨rfl, rfl⟩ := trodVars_none hV
  have k0 := h0
  have lt0 : ∀ x ∈ p0, x.block < W.heap.size := by obtain ⟨m, hm⟩ := k0; exact DataW.trod_lt m _ _ _ hm
  obtain ⟨b0, rfl, w0⟩ := open_vec (hval 0 49 v0 rfl rfl) h0
  have k1 := h1
  have lt1 : ∀ x ∈ p1, x.block < W.heap.size := by obtain ⟨m, hm⟩ := k1; exact DataW.trod_lt m _ _ _ hm
  obtain ⟨b1, rfl, w1⟩ := open_vec (hval 1 49 v1 rfl rfl) h1
  have k2 := h2
  have lt2 : ∀ x ∈ p2, x.block < W.heap.size := by obtain ⟨m, hm⟩ := k2; exact DataW.trod_lt m _ _ _ hm
  obtain ⟨b2, rfl, w2⟩ := open_vec (hval 2 49 v2 rfl rfl) h2
  clear hA0 hval0
  refine (walkPrioOrder b0 b1 b2 W w0 w1 w2).mono fun e W' ⟨he, bel⟩ => ?_
  subst he
  exact ⟨_, rfl, _, _, _, [], _, [], hW', trodAll_mk1 (shut_bool Try.underlying4 _), (trodAll_cons_mk (Below.trod laidOut (by kernel_rfl) (of_decide_eq_true (by kernel_rfl)) k0 bel lt0) (trodAll_cons_mk (Below.trod laidOut (by kernel_rfl) (of_decide_eq_true (by kernel_rfl)) k1 bel lt1) (trodAll_cons_mk (Below.trod laidOut (by kernel_rfl) (of_decide_eq_true (by kernel_rfl)) k2 bel lt2) trodAll_mk0))), rfl, bel.frame _, fun h => by cases h⟩

theorem overPrioOrder : Rows.prioOrderRow.holds Try.pinned (OpenSpec.ofChange Rows.prioOrderSpec) :=
  OpenClaim.holds_of_wide 6 Try.f6 rfl rfl rfl rfl rfl rfl rfl ⟨rfl, rfl, rfl, rfl, rfl⟩ rfl rfl rfl rfl rfl (by kernel_rfl) Try.func6 (by kernel_rfl)
    (of_decide_eq_true (by kernel_rfl)) (by unfold Func.isWrapper; first | (rw [if_pos (by decide +kernel)]; kernel_rfl) | (rw [if_neg (by decide +kernel)]; exact ⟨rfl, rfl⟩))
    (fun os started H enc _ => liftedPrioOrder os started H enc)

/-- The statement. -/
theorem prioOrder_holds : Rows.PrioOrderSaid := overPrioOrder

#print axioms prioOrder_holds
end Go.Proofs.Ytogghcbijdljkaa
