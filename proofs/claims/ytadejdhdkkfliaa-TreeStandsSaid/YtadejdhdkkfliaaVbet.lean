/- prio.Compare, as a contract. No condition. -/
import Derived.Test.YtadejdhdkkfliaaVcmp
namespace Go.Proofs.Ytadejdhdkkfliaa
open Go.RowKit
set_option maxRecDepth 100000
set_option maxHeartbeats 4000000 in
theorem compare_exact (a b : Vec) (w : World) : Calls Try.prog 81 #[a.v, b.v] w fun e w' => e = .returned (.int .i64 (cmpV a b)) ∧ ∃ o1 o2 o3, w' = (((w.alloc o1).alloc o2).alloc o3).drew := by
  obtain ⟨r1, k1, b1, p1⟩ := a
  obtain ⟨r2, k2, b2, p2⟩ := b
  simp only [cmpV, Vec.v, Vec.arr]
  obtain ⟨c1, h1⟩ : ∃ c, cmpI r1 r2 = c := ⟨_, rfl⟩
  obtain ⟨c2, h2⟩ : ∃ c, cmpI k1 k2 = c := ⟨_, rfl⟩
  obtain ⟨c3, h3⟩ : ∃ c, cmpI b1 b2 = c := ⟨_, rfl⟩
  obtain ⟨c4, h4⟩ : ∃ c, cmpI p1 p2 = c := ⟨_, rfl⟩
  have H1 := Lib.hid (fun w => cmpInt_any r1 r2 w)
  have H2 := Lib.hid (fun w => cmpInt_any k1 k2 w)
  have H3 := Lib.hid (fun w => cmpInt_any b1 b2 w)
  have H4 := Lib.hid (fun w => cmpInt_any p1 p2 w)
  rw [h1] at H1 ⊢
  rw [h2] at H2 ⊢
  rw [h3] at H3 ⊢
  rw [h4] at H4 ⊢
  clear h1 h2 h3 h4
  obtain ⟨r, hr⟩ : ∃ r, or4 c1 c2 c3 c4 = r := ⟨_, rfl⟩
  rw [hr]
  have HO := Lib.hid (fun (g : Nat) (w : World) h0 h1 h2 h3 => by have := or4_any g c1 c2 c3 c4 w h0 h1 h2 h3; rw [hr] at this; exact this)
  clear hr
  have hb := blk3 w (.cells #[.int .i64 r1, .int .i64 k1, .int .i64 b1, .int .i64 p1] 32) (.cells #[.int .i64 r2, .int .i64 k2, .int .i64 b2, .int .i64 p2] 32) 3 #[.int .i64 c1, .int .i64 c2, .int .i64 c3, .int .i64 c4]
  have HOB := Lib.hid (HO.out _ _ (hb.cell 0) (hb.cell 1) (hb.cell 2) (hb.cell 3))
  clear hb HO
  go_enter Try.func81, Try.ntmps81
  go_wp2_with fail
  have hb1 : Blk ((w.alloc (.cells #[.int .i64 r1, .int .i64 k1, .int .i64 b1, .int .i64 p1] 32)).alloc (.cells #[.int .i64 r2, .int .i64 k2, .int .i64 b2, .int .i64 p2] 32)).drew w.heap.size 32 #[.int .i64 r1, .int .i64 k1, .int .i64 b1, .int .i64 p1] := ((Blk.new w _ _).alloc _).drew
  have hb2 : Blk ((w.alloc (.cells #[.int .i64 r1, .int .i64 k1, .int .i64 b1, .int .i64 p1] 32)).alloc (.cells #[.int .i64 r2, .int .i64 k2, .int .i64 b2, .int .i64 p2] 32)).drew (w.heap.size + 1) 32 #[.int .i64 r2, .int .i64 k2, .int .i64 b2, .int .i64 p2] := by
    have := (Blk.new (w.alloc (.cells #[.int .i64 r1, .int .i64 k1, .int .i64 b1, .int .i64 p1] 32)) 32 #[.int .i64 r2, .int .i64 k2, .int .i64 b2, .int .i64 p2]).drew
    rwa [show (w.alloc (.cells #[.int .i64 r1, .int .i64 k1, .int .i64 b1, .int .i64 p1] 32)).heap.size = w.heap.size + 1 by simp] at this
  go_region_held3 (fun w' => w'.cell? ⟨w.heap.size, 0, none⟩ = some (.int .i64 r1) ∧ w'.cell? ⟨w.heap.size, 1, none⟩ = some (.int .i64 k1) ∧ w'.cell? ⟨w.heap.size, 2, none⟩ = some (.int .i64 b1) ∧ w'.cell? ⟨w.heap.size, 3, none⟩ = some (.int .i64 p1) ∧ w'.cell? ⟨w.heap.size + 1, 0, none⟩ = some (.int .i64 r2) ∧ w'.cell? ⟨w.heap.size + 1, 1, none⟩ = some (.int .i64 k2) ∧ w'.cell? ⟨w.heap.size + 1, 2, none⟩ = some (.int .i64 b2) ∧ w'.cell? ⟨w.heap.size + 1, 3, none⟩ = some (.int .i64 p2))
    (first | exact ⟨hb1.cell 0, hb1.cell 1, hb1.cell 2, hb1.cell 3, hb2.cell 0, hb2.cell 1, hb2.cell 2, hb2.cell 3⟩ | exact ⟨(hb1.alloc _).cell 0, (hb1.alloc _).cell 1, (hb1.alloc _).cell 2, (hb1.alloc _).cell 3, (hb2.alloc _).cell 0, (hb2.alloc _).cell 1, (hb2.alloc _).cell 2, (hb2.alloc _).cell 3⟩)
    (first
      | (go_at_call 83; (with_reducible (refine (H1.out _).mono ?_)); rintro e w' ⟨rfl, rfl⟩)
      | (go_at_call 83; (with_reducible (refine (H2.out _).mono ?_)); rintro e w' ⟨rfl, rfl⟩)
      | (go_at_call 83; (with_reducible (refine (H3.out _).mono ?_)); rintro e w' ⟨rfl, rfl⟩)
      | (go_at_call 83; (with_reducible (refine (H4.out _).mono ?_)); rintro e w' ⟨rfl, rfl⟩)
      | (go_at_call 82; (with_reducible (refine HOB.out.mono ?_)); rintro e w' ⟨rfl, rfl⟩))
  all_goals
    go_wp2_with fail
    go_ret
    exact ⟨rfl, _, _, _, rfl⟩
theorem bel_three (w : World) (o1 o2 o3 : Obj) : Below w.heap.size w (((w.alloc o1).alloc o2).alloc o3).drew := ((bel_alloc2 w o1 o2).alloc (bel_alloc2 w o1 o2).size o3).drew
theorem compare_any (a b : Vec) (w : World) : Calls Try.prog 81 #[a.v, b.v] w fun e w' => e = .returned (.int .i64 (cmpV a b)) ∧ Below w.heap.size w w' :=
  (compare_exact a b w).mono fun _ _ ⟨he, _, _, _, hw⟩ => ⟨he, by rw [hw]; exact bel_three _ _ _ _⟩
set_option maxHeartbeats 4000000 in
theorem better_any (a b : Vec) (w : World) : Calls Try.prog 79 #[a.v, b.v] w fun e w' => e = .returned (.bool (decide (ltV a b))) ∧ Below w.heap.size w w' := by
  obtain ⟨d, hd⟩ : ∃ d, cmpV a b = d := ⟨_, rfl⟩
  have hl : decide (ltV a b) = decide (d < 0) := decide_eq_decide.2 (by rw [← hd]; exact (cmpV_lt a b).symm)
  have HC := Lib.hid (fun w => compare_any a b w)
  rw [hd] at HC
  rw [hl]
  clear hd hl
  simp only [Vec.v, Vec.arr] at HC ⊢
  go_enter Try.func79, Try.ntmps79
  go_wp2_with fail
  refine (HC.out _).mono ?_
  rintro e w1 ⟨rfl, b1⟩
  have hf := (bel_alloc2 w _ _).trans (b1.mono (bel_alloc2 w _ _).size)
  clear b1
  go_wp2_with fail
  go_ret
  exact ⟨rfl, hf⟩
/-- The document's. -/
theorem rbetter_any (a b : Vec) (w : World) : Calls Try.prog 75 #[a.v, b.v] w fun e w' => e = .returned (.bool (decide (ltV a b))) ∧ Below w.heap.size w w' := by
  obtain ⟨r1, k1, b1, p1⟩ := a
  obtain ⟨r2, k2, b2, p2⟩ := b
  simp only [Vec.v, Vec.arr]
  by_cases hr : r1 = r2
  · subst hr
    have d0 : (r1 != r1) = false := by simp
    by_cases hk : k1 = k2
    · subst hk
      have d1 : (k1 != k1) = false := by simp
      by_cases hb : b1 = b2
      · subst hb
        have d2 : (b1 != b1) = false := by simp
        rw [show decide (ltV ⟨r1, k1, b1, p1⟩ ⟨r1, k1, b1, p2⟩) = decide (p1 < p2) from decide_eq_decide.2 (by simp [ltV])]
        go_enter Try.func75, Try.ntmps75
        go_wp2_with fail
        go_ret
        exact ⟨rfl, bel_alloc2 _ _ _⟩
      · have d2 : (b1 != b2) = true := by simpa using hb
        rw [show decide (ltV ⟨r1, k1, b1, p1⟩ ⟨r1, k1, b2, p2⟩) = decide (b1 < b2) from decide_eq_decide.2 (by simp [ltV, hb])]
        clear hb
        go_enter Try.func75, Try.ntmps75
        go_wp2_with fail
        go_ret
        exact ⟨rfl, bel_alloc2 _ _ _⟩
    · have d1 : (k1 != k2) = true := by simpa using hk
      rw [show decide (ltV ⟨r1, k1, b1, p1⟩ ⟨r1, k2, b2, p2⟩) = decide (k1 < k2) from decide_eq_decide.2 (by simp [ltV, hk])]
      clear hk
      go_enter Try.func75, Try.ntmps75
      go_wp2_with fail
      go_ret
      exact ⟨rfl, bel_alloc2 _ _ _⟩
  · have d0 : (r1 != r2) = true := by simpa using hr
    rw [show decide (ltV ⟨r1, k1, b1, p1⟩ ⟨r2, k2, b2, p2⟩) = decide (r1 < r2) from decide_eq_decide.2 (by simp [ltV, hr])]
    clear hr
    go_enter Try.func75, Try.ntmps75
    go_wp2_with fail
    go_ret
    exact ⟨rfl, bel_alloc2 _ _ _⟩
end Go.Proofs.Ytadejdhdkkfliaa
