/- What an applicant answers when it is asked, and what it does: State, Speaks, Pending, Idle, Want, All, Again, Say; a nil one. Its condition: a state of the applicant's. -/
import Derived.Test.YthghedlgeceepaaApStep
import Derived.Deep.QuietTactic
import Derived.OwnWalk
namespace Go.Proofs.Ythghedlgeceepaa
open Go.RowKit
set_option maxRecDepth 100000

section
variable {w : World} {g : Nat} {r : Ap}
theorem astate_any (h : ApAt w g r) : Calls Try.prog 74 #[.pointer (some ⟨g, 0, none⟩)] w fun e w' => e = .returned (.int .i64 r.state) ∧ w = w' := by
  have c0 := h.c0
  clear h
  go_enter Try.func74, Try.ntmps74
  go_wp2_with fail
  go_ret
  exact ⟨rfl, rfl⟩
theorem astate_nil (w : World) : Calls Try.prog 74 #[.pointer none] w fun e w' => e = .returned (.int .i64 0) ∧ w = w' := by
  go_enter Try.func74, Try.ntmps74
  go_wp2_with fail
  go_ret
  exact ⟨rfl, rfl⟩
theorem aspeaks_any (h : ApAt w g r) (hs : S5 r.state) : Calls Try.prog 46 #[.pointer (some ⟨g, 0, none⟩)] w fun e w' => e = .returned (.bool (speaksA r)) ∧ w = w' := by
  have HS := Lib.hid (astate_any h)
  clear h
  obtain ⟨s, b⟩ := r
  simp only at HS hs
  unfold S5 at hs
  rcases hs with rfl | rfl | rfl | rfl | rfl
  all_goals
    go_enter Try.func46, Try.ntmps46
    go_wp2_with (go_at_call 74; refine HS.out.mono ?_; rintro e w' ⟨rfl, rfl⟩)
    go_ret
    exact ⟨rfl, rfl⟩
theorem aspeaks_nil (w : World) : Calls Try.prog 46 #[.pointer none] w fun e w' => e = .returned (.bool false) ∧ w = w' := by
  have HS := Lib.hid (astate_nil w)
  go_enter Try.func46, Try.ntmps46
  go_wp2_with (go_at_call 74; refine HS.out.mono ?_; rintro e w' ⟨rfl, rfl⟩)
  go_ret
  exact ⟨rfl, rfl⟩
theorem aidle_any (h : ApAt w g r) : Calls Try.prog 82 #[.pointer (some ⟨g, 0, none⟩)] w fun e w' => e = .returned (.bool (r.state == 0)) ∧ w = w' := by
  have HS := Lib.hid (astate_any h)
  clear h
  go_enter Try.func82, Try.ntmps82
  go_wp2_with (go_at_call 74; refine HS.out.mono ?_; rintro e w' ⟨rfl, rfl⟩)
  go_ret
  exact ⟨rfl, rfl⟩
theorem aidle_nil (w : World) : Calls Try.prog 82 #[.pointer none] w fun e w' => e = .returned (.bool true) ∧ w = w' := by
  have HS := Lib.hid (astate_nil w)
  go_enter Try.func82, Try.ntmps82
  go_wp2_with (go_at_call 74; refine HS.out.mono ?_; rintro e w' ⟨rfl, rfl⟩)
  go_ret
  exact ⟨rfl, rfl⟩
theorem ajoins_any (n : Bool) (w : World) : Calls Try.prog 58 #[.bool n] w fun e w' => e = .returned (.int .i64 (joinE n)) ∧ w = w' := by
  cases n
  all_goals
    go_enter Try.func58, Try.ntmps58
    go_wp2_with fail
    go_ret
    exact ⟨rfl, rfl⟩
theorem aall_any (h : ApAt w g r) (hs : S5 r.state) : Calls Try.prog 63 #[.pointer (some ⟨g, 0, none⟩)] w fun x w' => x = .returned (.tuple #[]) ∧ ApAt w' g (stepA r 2) ∧ Touch (fun k => k = g) w w' := by
  have HS := Lib.hid (astep_any h hs 2 (by unfold E6; omega))
  clear h hs
  go_enter Try.func63, Try.ntmps63
  go_wp2_with (go_at_call 57; refine HS.out.mono ?_; rintro e w1 ⟨rfl, h1, t1⟩)
  exact bodyPost_end (results_none rfl _ _ _) rfl ⟨rfl, h1, t1⟩
theorem aall_nil (w : World) : Calls Try.prog 63 #[.pointer none] w fun x w' => x = .returned (.tuple #[]) ∧ w = w' := by
  have HS := Lib.hid (astep_nil 2 w)
  go_enter Try.func63, Try.ntmps63
  go_wp2_with (go_at_call 57; refine HS.out.mono ?_; rintro e w1 ⟨rfl, rfl⟩)
  exact bodyPost_end (results_none rfl _ _ _) rfl ⟨rfl, rfl⟩
theorem aagain_any (h : ApAt w g r) (hs : S5 r.state) : Calls Try.prog 35 #[.pointer (some ⟨g, 0, none⟩)] w fun x w' => x = .returned (.tuple #[]) ∧ ApAt w' g (stepA r 3) ∧ Touch (fun k => k = g) w w' := by
  have HS := Lib.hid (astep_any h hs 3 (by unfold E6; omega))
  clear h hs
  go_enter Try.func35, Try.ntmps35
  go_wp2_with (go_at_call 57; refine HS.out.mono ?_; rintro e w1 ⟨rfl, h1, t1⟩)
  exact bodyPost_end (results_none rfl _ _ _) rfl ⟨rfl, h1, t1⟩
theorem aagain_nil (w : World) : Calls Try.prog 35 #[.pointer none] w fun x w' => x = .returned (.tuple #[]) ∧ w = w' := by
  have HS := Lib.hid (astep_nil 3 w)
  go_enter Try.func35, Try.ntmps35
  go_wp2_with (go_at_call 57; refine HS.out.mono ?_; rintro e w1 ⟨rfl, rfl⟩)
  exact bodyPost_end (results_none rfl _ _ _) rfl ⟨rfl, rfl⟩
set_option maxHeartbeats 2000000 in
theorem awant_any (h : ApAt w g r) (hs : S5 r.state) (b : Int) (n : Bool) : Calls Try.prog 30 #[.pointer (some ⟨g, 0, none⟩), .int .i64 b, .bool n] w fun x w' => x = .returned (.tuple #[]) ∧ ApAt w' g (wantA r b n) ∧ Touch (fun k => k = g) w w' := by
  unfold wantA
  by_cases hb : b < 0
  · rw [if_pos hb]
    have HS := Lib.hid (astep_any h hs 1 (by unfold E6; omega))
    clear h hs
    go_enter Try.func30, Try.ntmps30
    go_wp2_with (go_at_call 57; refine HS.out.mono ?_; rintro e w1 ⟨rfl, h1, t1⟩)
    exact bodyPost_ret (results_none rfl _ _ _) rfl ⟨rfl, h1, t1⟩
  · rw [if_neg hb]
    have e0 : decide (b < 0) = false := decide_eq_false hb
    have f1 := h.frozen 1
    have c1 := h.c1
    have h2 : ApAt (w.setCell ⟨g, 1, none⟩ (.int .i64 b)) g ⟨r.state, b⟩ := h.set_ 1 _
    have t2 : Touch (fun k => k = g) w (w.setCell ⟨g, 1, none⟩ (.int .i64 b)) := (Touch.refl (fun k => k = g) w).set_ (a := ⟨g, 1, none⟩) (fun _ => rfl) _
    have HH := Lib.hid (And.intro h2 t2)
    have HP := Lib.hid (aspeaks_any h2 hs)
    rw [show speaksA ⟨r.state, b⟩ = speaksA r from rfl] at HP
    have HN := Lib.hid (fun w => ajoins_any n w)
    have HS := Lib.hid (show Calls Try.prog 57 #[.pointer (some ⟨g, 0, none⟩), .int .i64 (joinE n)] (w.setCell ⟨g, 1, none⟩ (.int .i64 b)) fun x w' => x = .returned (.int .i64 (actA ⟨r.state, b⟩ (joinE n))) ∧ ApAt w' g (stepA ⟨r.state, b⟩ (joinE n)) ∧ Touch (fun k => k = g) w w' by
      refine (astep_any h2 hs (joinE n) (joinE_ok n)).mono ?_
      rintro x w' ⟨rfl, h3, t3⟩
      exact ⟨rfl, h3, t2.trans t3⟩)
    cases hp : speaksA r with
    | true =>
      rw [hp] at HP
      rw [if_pos rfl]
      clear h hs hb h2 t2 hp HS
      go_enter Try.func30, Try.ntmps30
      go_wp2_with (go_at_call 46; refine HP.out.mono ?_; rintro e w1 ⟨rfl, rfl⟩)
      exact bodyPost_end (results_none rfl _ _ _) rfl ⟨rfl, HH.out⟩
    | false =>
      rw [hp] at HP
      rw [if_neg (by decide)]
      clear h hs hb h2 t2 hp
      go_enter Try.func30, Try.ntmps30
      go_wp2_with (first | (go_at_call 46; (with_reducible (refine HP.out.mono ?_)); rintro e w1 ⟨rfl, rfl⟩) | (go_at_call 58; (with_reducible (refine (HN.out _).mono ?_)); rintro e w2 ⟨rfl, rfl⟩) | (go_at_call 57; (with_reducible (refine HS.out.mono ?_)); rintro e w3 ⟨rfl, h3, t3⟩))
      exact bodyPost_end (results_none rfl _ _ _) rfl ⟨rfl, h3, t3⟩
theorem awant_nil (b : Int) (n : Bool) (w : World) : Calls Try.prog 30 #[.pointer none, .int .i64 b, .bool n] w fun x w' => x = .returned (.tuple #[]) ∧ w = w' := by
  go_enter Try.func30, Try.ntmps30
  go_wp2_with fail
  exact bodyPost_ret (results_none rfl _ _ _) rfl ⟨rfl, rfl⟩
set_option maxHeartbeats 2000000 in
theorem asay_any (h : ApAt w g r) (hs : S5 r.state) : Calls Try.prog 67 #[.pointer (some ⟨g, 0, none⟩)] w fun x w' => x = .returned (sayV r) ∧ ApAt w' g (stepA r 4) ∧ Touch (fun k => k = g) w w' := by
  have HS := Lib.hid (show Calls Try.prog 57 #[.pointer (some ⟨g, 0, none⟩), .int .i64 4] w fun x w' => x = .returned (.int .i64 (actA r 4)) ∧ w'.cell? ⟨g, 1, none⟩ = some (.int .i64 r.born) ∧ ApAt w' g (stepA r 4) ∧ Touch (fun k => k = g) w w' by
    refine (astep_any h hs 4 (by unfold E6; omega)).mono ?_
    rintro x w' ⟨rfl, h3, t3⟩
    exact ⟨rfl, h3.c1, h3, t3⟩)
  have ha := cellA_act hs
  change actA r 4 = 0 ∨ actA r 4 = 1 ∨ actA r 4 = 2 ∨ actA r 4 = 3 at ha
  unfold sayV
  obtain ⟨a, ha2⟩ : ∃ a, actA r 4 = a := ⟨_, rfl⟩
  obtain ⟨b, hb2⟩ : ∃ b, r.born = b := ⟨_, rfl⟩
  rw [ha2] at HS ha ⊢
  rw [hb2] at HS ⊢
  clear h hs ha2 hb2
  rcases ha with rfl | rfl | rfl | rfl
  all_goals
    go_enter Try.func67, Try.ntmps67
    go_wp2_with (go_at_call 57; refine HS.out.mono ?_; rintro e w1 ⟨rfl, c1, h1, t1⟩)
  · exact bodyPost_ret (results_tmp3 rfl _ _ _) rfl ⟨rfl, h1, t1⟩
  all_goals
    go_quiet (fail)
    go_wp2_with fail
    exact bodyPost_ret (results_tmp3 rfl _ _ _) rfl ⟨rfl, h1, t1.drewN _⟩
theorem asay_nil (w : World) : Calls Try.prog 67 #[.pointer none] w fun x w' => x = .returned (.tuple #[.int .i64 0, .int .i64 0, .bool false]) ∧ w = w' := by
  have HS := Lib.hid (astep_nil 4 w)
  go_enter Try.func67, Try.ntmps67
  go_wp2_with (go_at_call 57; refine HS.out.mono ?_; rintro e w1 ⟨rfl, rfl⟩)
  exact bodyPost_ret (results_tmp3 rfl _ _ _) rfl ⟨rfl, rfl⟩
end
end Go.Proofs.Ythghedlgeceepaa
