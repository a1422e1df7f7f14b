/- The document's applicant (layer 15): the same plain state. Contracts of its functions. Their condition: a state of the applicant's. -/
import Derived.Test.YtnifdbhihbjeaaaApAsk
import Derived.Test.YtnifdbhihbjeaaaJnext
namespace Go.Proofs.Ytnifdbhihbjeaaa
open Go.RowKit
set_option maxRecDepth 100000

abbrev DaAt (w : World) (d : Nat) (r : Ap) : Prop := Blk w d 29 r.arr
theorem nextA_any {s e : Int} (hs : S5 s) (he : E6 e) (w : World) : Calls Try.prog 26 #[.bool true, .int .i64 s, .int .i64 e] w fun r w' => r = .returned (.int .i64 (cellA s e).1) ∧ w = w' := by
  obtain ⟨s', rfl, h1⟩ : ∃ s' : Nat, s = s' ∧ s' < 5 := ⟨s.toNat, by unfold S5 at hs; omega, by unfold S5 at hs; omega⟩
  obtain ⟨e', rfl, h2⟩ : ∃ e' : Nat, e = e' ∧ e' < 6 := ⟨e.toNat, by unfold E6 at he; omega, by unfold E6 at he; omega⟩
  exact next_any true s' e' h1 h2 w
theorem actD_any {s e : Int} (hs : S5 s) (he : E6 e) (w : World) : Calls Try.prog 25 #[.bool true, .int .i64 s, .int .i64 e] w fun r w' => r = .returned (.int .i64 (cellA s e).2) ∧ w = w' := by
  obtain ⟨s', rfl, h1⟩ : ∃ s' : Nat, s = s' ∧ s' < 5 := ⟨s.toNat, by unfold S5 at hs; omega, by unfold S5 at hs; omega⟩
  obtain ⟨e', rfl, h2⟩ : ∃ e' : Nat, e = e' ∧ e' < 6 := ⟨e.toNat, by unfold E6 at he; omega, by unfold E6 at he; omega⟩
  exact act_any true s' e' h1 h2 w
section
variable {w : World} {d : Nat} {r : Ap}
theorem DaAt.c0 (h : DaAt w d r) : w.cell? ⟨d, 0, none⟩ = some (.int .i64 r.state) := h.cell 0
theorem DaAt.c1 (h : DaAt w d r) : w.cell? ⟨d, 1, none⟩ = some (.int .i64 r.born) := h.cell 1
set_option maxHeartbeats 4000000 in
theorem dstep_any (h : DaAt w d r) (hs : S5 r.state) (e : Int) (he : E6 e) :
    Calls Try.prog 22 #[.pointer (some ⟨d, 0, none⟩), .int .i64 e] w fun x w' => x = .returned (.int .i64 (actA r e)) ∧ DaAt w' d (stepA r e) ∧ Touch (fun k => k = d) w w' := by
  have HN := Lib.hid (fun w => nextA_any hs he w)
  have HA := Lib.hid (fun w => actD_any hs he w)
  have c0 := h.c0
  have f0 := h.frozen 0
  unfold stepA actA
  obtain ⟨c, hc⟩ : ∃ c, cellA r.state e = c := ⟨_, rfl⟩
  rw [hc] at HN HA ⊢
  obtain ⟨c1, c2⟩ := c
  obtain ⟨s, b⟩ := r
  have HP := Lib.hid (show DaAt (w.setCell ⟨d, 0, none⟩ (.int .i64 c1)) d ⟨c1, b⟩ ∧ Touch (fun k => k = d) w (w.setCell ⟨d, 0, none⟩ (.int .i64 c1)) from ⟨h.set_ 0 _, (Touch.refl (fun k => k = d) w).set_ (a := ⟨d, 0, none⟩) (fun _ => rfl) _⟩)
  simp only at *
  clear h hs he hc
  go_enter Try.func22, Try.ntmps22
  go_wp2_with (first | (go_at_call 26; (with_reducible (refine (HN.out _).mono ?_)); rintro e w' ⟨rfl, rfl⟩) | (go_at_call 25; (with_reducible (refine (HA.out _).mono ?_)); rintro e w' ⟨rfl, rfl⟩))
  go_ret
  exact ⟨rfl, HP.out⟩
set_option maxHeartbeats 1000000 in
theorem dspeaks_any (h : DaAt w d r) (hs : S5 r.state) : Calls Try.prog 17 #[.pointer (some ⟨d, 0, none⟩)] w fun e w' => e = .returned (.bool (speaksA r)) ∧ w = w' := by
  have c0 := h.c0
  clear h
  obtain ⟨s, b⟩ := r
  simp only at c0 hs
  unfold S5 at hs
  rcases hs with rfl | rfl | rfl | rfl | rfl
  all_goals
    go_enter Try.func17, Try.ntmps17
    go_wp2_with fail
    go_ret
    exact ⟨rfl, rfl⟩
theorem ddo_any (h : DaAt w d r) (hs : S5 r.state) (e : Int) (he : E6 e) : Calls Try.prog 11 #[.pointer (some ⟨d, 0, none⟩), .int .i64 e] w fun x w' => x = .returned (.tuple #[]) ∧ DaAt w' d (stepA r e) ∧ Touch (fun k => k = d) w w' := by
  have HS := Lib.hid (dstep_any h hs e he)
  clear h hs he
  go_enter Try.func11, Try.ntmps11
  go_wp2_with (go_at_call 22; refine HS.out.mono ?_; rintro e w1 ⟨rfl, h1, t1⟩)
  exact bodyPost_end (results_none rfl _ _ _) rfl ⟨rfl, h1, t1⟩
set_option maxHeartbeats 2000000 in
theorem dwant_any (h : DaAt w d r) (hs : S5 r.state) (b : Int) (n : Bool) : Calls Try.prog 9 #[.pointer (some ⟨d, 0, none⟩), .int .i64 b, .bool n] w fun x w' => x = .returned (.tuple #[]) ∧ DaAt w' d (wantA r b n) ∧ Touch (fun k => k = d) w w' := by
  unfold wantA
  by_cases hb : b < 0
  · rw [if_pos hb]
    have HS := Lib.hid (dstep_any h hs 1 (by unfold E6; omega))
    clear h hs
    go_enter Try.func9, Try.ntmps9
    go_wp2_with (go_at_call 22; refine HS.out.mono ?_; rintro e w1 ⟨rfl, h1, t1⟩)
    exact bodyPost_ret (results_none rfl _ _ _) rfl ⟨rfl, h1, t1⟩
  · rw [if_neg hb]
    have e0 : decide (b < 0) = false := decide_eq_false hb
    have f1 := h.frozen 1
    have c1 := h.c1
    have h2 : DaAt (w.setCell ⟨d, 1, none⟩ (.int .i64 b)) d ⟨r.state, b⟩ := h.set_ 1 _
    have t2 : Touch (fun k => k = d) w (w.setCell ⟨d, 1, none⟩ (.int .i64 b)) := (Touch.refl (fun k => k = d) w).set_ (a := ⟨d, 1, none⟩) (fun _ => rfl) _
    have HH := Lib.hid (And.intro h2 t2)
    have HP := Lib.hid (dspeaks_any h2 hs)
    rw [show speaksA ⟨r.state, b⟩ = speaksA r from rfl] at HP
    have HS := Lib.hid (show Calls Try.prog 22 #[.pointer (some ⟨d, 0, none⟩), .int .i64 (joinE n)] (w.setCell ⟨d, 1, none⟩ (.int .i64 b)) fun x w' => x = .returned (.int .i64 (actA ⟨r.state, b⟩ (joinE n))) ∧ DaAt w' d (stepA ⟨r.state, b⟩ (joinE n)) ∧ Touch (fun k => k = d) w w' by
      refine (dstep_any h2 hs (joinE n) (joinE_ok n)).mono ?_
      rintro x w' ⟨rfl, h3, t3⟩
      exact ⟨rfl, h3, t2.trans t3⟩)
    cases hp : speaksA r with
    | true =>
      rw [hp] at HP
      rw [if_pos rfl]
      clear h hs hb h2 t2 hp HS
      go_enter Try.func9, Try.ntmps9
      go_wp2_with (go_at_call 17; refine HP.out.mono ?_; rintro e w1 ⟨rfl, rfl⟩)
      exact bodyPost_ret (results_none rfl _ _ _) rfl ⟨rfl, HH.out⟩
    | false =>
      rw [hp] at HP
      rw [if_neg (by decide)]
      clear h hs hb h2 t2 hp
      cases n
      all_goals
        unfold joinE at HS ⊢
        simp only [if_true, if_false, reduceCtorEq] at HS ⊢
        go_enter Try.func9, Try.ntmps9
        go_wp2_with (first | (go_at_call 17; (with_reducible (refine HP.out.mono ?_)); rintro e w1 ⟨rfl, rfl⟩) | (go_at_call 22; (with_reducible (refine HS.out.mono ?_)); rintro e w3 ⟨rfl, h3, t3⟩))
        exact bodyPost_end (results_none rfl _ _ _) rfl ⟨rfl, h3, t3⟩
set_option maxHeartbeats 2000000 in
theorem dsay_any (h : DaAt w d r) (hs : S5 r.state) : Calls Try.prog 14 #[.pointer (some ⟨d, 0, none⟩)] w fun x w' => x = .returned (sayV r) ∧ DaAt w' d (stepA r 4) ∧ Touch (fun k => k = d) w w' := by
  have HS := Lib.hid (show Calls Try.prog 22 #[.pointer (some ⟨d, 0, none⟩), .int .i64 4] w fun x w' => x = .returned (.int .i64 (actA r 4)) ∧ w'.cell? ⟨d, 1, none⟩ = some (.int .i64 r.born) ∧ DaAt w' d (stepA r 4) ∧ Touch (fun k => k = d) w w' by
    refine (dstep_any h hs 4 (by unfold E6; omega)).mono ?_
    rintro x w' ⟨rfl, h3, t3⟩
    exact ⟨rfl, h3.c1, h3, t3⟩)
  have ha := cellA_act hs
  change actA r 4 = 0 ∨ actA r 4 = 1 ∨ actA r 4 = 2 ∨ actA r 4 = 3 at ha
  unfold sayV
  obtain ⟨a, ha2⟩ : ∃ a, actA r 4 = a := ⟨_, rfl⟩
  obtain ⟨b, hb2⟩ : ∃ b, r.born = b := ⟨_, rfl⟩
  rw [ha2] at HS ha ⊢
  rw [hb2] at HS ⊢
  clear h hs ha2 hb2
  have hI1 : ∀ w0 : World, Sem.run Try.prog (Instr.index 43 (.agg #[.int .i64 0, .int .i64 0, .int .i64 1, .int .i64 5]) (.int .i64 1)) w0 = .ok (.int .i64 0) w0 := fun _ => rfl
  have hI2 : ∀ w0 : World, Sem.run Try.prog (Instr.index 43 (.agg #[.int .i64 0, .int .i64 0, .int .i64 1, .int .i64 5]) (.int .i64 2)) w0 = .ok (.int .i64 1) w0 := fun _ => rfl
  have hI3 : ∀ w0 : World, Sem.run Try.prog (Instr.index 43 (.agg #[.int .i64 0, .int .i64 0, .int .i64 1, .int .i64 5]) (.int .i64 3)) w0 = .ok (.int .i64 5) w0 := fun _ => rfl
  rcases ha with rfl | rfl | rfl | rfl
  all_goals
    go_enter Try.func14, Try.ntmps14
    go_wp2_with (go_at_call 22; refine HS.out.mono ?_; rintro e w1 ⟨rfl, c1, h1, t1⟩)
  · exact bodyPost_ret (results_tmp3 rfl _ _ _) rfl ⟨rfl, h1, t1⟩
  all_goals
    go_region
    go_wp2_with fail
    exact bodyPost_ret (results_tmp3 rfl _ _ _) rfl ⟨rfl, h1, t1.drew⟩
end
end Go.Proofs.Ytnifdbhihbjeaaa
