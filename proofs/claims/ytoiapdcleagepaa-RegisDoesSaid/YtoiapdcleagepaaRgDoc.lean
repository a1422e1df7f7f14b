/- The document's registrar (layer 14): the same plain state, and when it is due. Contracts of its functions. Their conditions: it can be; ticks far from an int's ends. -/
import Derived.Test.YtoiapdcleagepaaRgHear
import Derived.Deep.QuietTactic
namespace Go.Proofs.Ytoiapdcleagepaa
open Go.RowKit
set_option maxRecDepth 100000

def docArr (r : Rg) (D : Int) : Array Value := #[.int .i64 r.mode, .int .i64 r.state, .int .i64 r.born, .int .i64 D]
abbrev DgAt (w : World) (d : Nat) (r : Rg) (D : Int) : Prop := Blk w d 36 (docArr r D)
/-- While it is leaving it is due 24 ticks behind. -/
def DueOk (r : Rg) (D : Int) : Prop := r.state = 1 → D = r.left + 24
def dueS (r : Rg) (D e T : Int) : Int := if (cellR r.state e).2 = 1 then T + 24 else D
theorem DueOk.step {r : Rg} {D : Int} (h : DueOk r D) (hs : r.state = 0 ∨ r.state = 1 ∨ r.state = 2) (e T : Int) (he : e = 0 ∨ e = 1 ∨ e = 2 ∨ e = 3 ∨ e = 4) : DueOk (stepR r e T) (dueS r D e T) := by
  obtain ⟨m, s, b, l⟩ := r
  unfold DueOk at h ⊢
  unfold stepR dueS
  simp only at h hs ⊢
  rcases hs with rfl | rfl | rfl <;> rcases he with rfl | rfl | rfl | rfl | rfl
  all_goals first
    | (intro h1; exact absurd h1 (by decide))
    | (intro _; exact h rfl)
    | (intro _; rfl)
theorem nextR_any (s e : Int) (hs : s = 0 ∨ s = 1 ∨ s = 2) (he : e = 0 ∨ e = 1 ∨ e = 2 ∨ e = 3 ∨ e = 4) (w : World) : Calls Try.prog 30 #[.bool false, .int .i64 s, .int .i64 e] w fun r w' => r = .returned (.int .i64 (cellR s e).1) ∧ w = w' := by
  rcases hs with rfl | rfl | rfl <;> rcases he with rfl | rfl | rfl | rfl | rfl
  · exact next_any false 0 0 (by decide) (by decide) w
  · exact next_any false 0 1 (by decide) (by decide) w
  · exact next_any false 0 2 (by decide) (by decide) w
  · exact next_any false 0 3 (by decide) (by decide) w
  · exact next_any false 0 4 (by decide) (by decide) w
  · exact next_any false 1 0 (by decide) (by decide) w
  · exact next_any false 1 1 (by decide) (by decide) w
  · exact next_any false 1 2 (by decide) (by decide) w
  · exact next_any false 1 3 (by decide) (by decide) w
  · exact next_any false 1 4 (by decide) (by decide) w
  · exact next_any false 2 0 (by decide) (by decide) w
  · exact next_any false 2 1 (by decide) (by decide) w
  · exact next_any false 2 2 (by decide) (by decide) w
  · exact next_any false 2 3 (by decide) (by decide) w
  · exact next_any false 2 4 (by decide) (by decide) w
theorem actR_any (s e : Int) (hs : s = 0 ∨ s = 1 ∨ s = 2) (he : e = 0 ∨ e = 1 ∨ e = 2 ∨ e = 3 ∨ e = 4) (w : World) : Calls Try.prog 29 #[.bool false, .int .i64 s, .int .i64 e] w fun r w' => r = .returned (.int .i64 (cellR s e).2) ∧ w = w' := by
  rcases hs with rfl | rfl | rfl <;> rcases he with rfl | rfl | rfl | rfl | rfl
  · exact act_any false 0 0 (by decide) (by decide) w
  · exact act_any false 0 1 (by decide) (by decide) w
  · exact act_any false 0 2 (by decide) (by decide) w
  · exact act_any false 0 3 (by decide) (by decide) w
  · exact act_any false 0 4 (by decide) (by decide) w
  · exact act_any false 1 0 (by decide) (by decide) w
  · exact act_any false 1 1 (by decide) (by decide) w
  · exact act_any false 1 2 (by decide) (by decide) w
  · exact act_any false 1 3 (by decide) (by decide) w
  · exact act_any false 1 4 (by decide) (by decide) w
  · exact act_any false 2 0 (by decide) (by decide) w
  · exact act_any false 2 1 (by decide) (by decide) w
  · exact act_any false 2 2 (by decide) (by decide) w
  · exact act_any false 2 3 (by decide) (by decide) w
  · exact act_any false 2 4 (by decide) (by decide) w
section
variable {w : World} {d : Nat} {r : Rg} {D : Int}
theorem DgAt.c0 (h : DgAt w d r D) : w.cell? ⟨d, 0, none⟩ = some (.int .i64 r.mode) := h.cell 0
theorem DgAt.c1 (h : DgAt w d r D) : w.cell? ⟨d, 1, none⟩ = some (.int .i64 r.state) := h.cell 1
theorem DgAt.c2 (h : DgAt w d r D) : w.cell? ⟨d, 2, none⟩ = some (.int .i64 r.born) := h.cell 2
theorem DgAt.c3 (h : DgAt w d r D) : w.cell? ⟨d, 3, none⟩ = some (.int .i64 D) := h.cell 3
set_option maxHeartbeats 4000000 in
theorem dstep_any (h : DgAt w d r D) (hs : r.state = 0 ∨ r.state = 1 ∨ r.state = 2) (e T : Int) (he : e = 0 ∨ e = 1 ∨ e = 2 ∨ e = 3 ∨ e = 4) (hT : Tk T) :
    Calls Try.prog 23 #[.pointer (some ⟨d, 0, none⟩), .int .i64 e, .int .i64 T] w fun x w' => x = .returned (.tuple #[]) ∧ DgAt w' d (stepR r e T) (dueS r D e T) ∧ Touch (fun k => k = d) w w' := by
  have HN := Lib.hid (fun w => nextR_any r.state e hs he w)
  have HA := Lib.hid (fun w => actR_any r.state e hs he w)
  have HW := Lib.hid (show wrap64 (T + 24) = T + 24 from IntWalk.wrap64_in _ (by unfold Tk at hT; omega))
  have c1 := h.c1
  have c3 := h.c3
  have f1 := h.frozen 1
  have f3 := h.frozen 3
  unfold stepR dueS
  obtain ⟨c, hc⟩ : ∃ c, cellR r.state e = c := ⟨_, rfl⟩
  rw [hc] at HN HA ⊢
  obtain ⟨ce1, ce2⟩ := c
  simp only at HN HA ⊢
  obtain ⟨L, hL⟩ : ∃ L, (if ce2 = 1 then T else r.left) = L := ⟨_, rfl⟩
  obtain ⟨E, hE⟩ : ∃ E, (if ce2 = 1 then T + 24 else D) = E := ⟨_, rfl⟩
  rw [hL, hE]
  have HL := Lib.hid (And.intro hL hE)
  have HP := Lib.hid (And.intro
    (show DgAt (w.setCell ⟨d, 1, none⟩ (.int .i64 ce1)) d ⟨r.mode, ce1, r.born, L⟩ D ∧ Touch (fun k => k = d) w (w.setCell ⟨d, 1, none⟩ (.int .i64 ce1)) from ⟨h.set_ 1 _, (Touch.refl (fun k => k = d) w).set_ (a := ⟨d, 1, none⟩) (fun _ => rfl) _⟩)
    (show DgAt ((w.setCell ⟨d, 3, none⟩ (.int .i64 (T + 24))).setCell ⟨d, 1, none⟩ (.int .i64 ce1)) d ⟨r.mode, ce1, r.born, L⟩ (T + 24) ∧ Touch (fun k => k = d) w ((w.setCell ⟨d, 3, none⟩ (.int .i64 (T + 24))).setCell ⟨d, 1, none⟩ (.int .i64 ce1)) from ⟨(h.set_ 3 _).set_ 1 _, ((Touch.refl (fun k => k = d) w).set_ (a := ⟨d, 3, none⟩) (fun _ => rfl) _).set_ (a := ⟨d, 1, none⟩) (fun _ => rfl) _⟩))
  obtain ⟨T24, hT24⟩ : ∃ t, T + 24 = t := ⟨_, rfl⟩
  rw [hT24] at HP HL HW
  obtain ⟨m, s, b, l⟩ := r
  simp only at *
  clear h hs he hT hL hE hc
  by_cases h1 : ce2 = 1
  · obtain rfl : T24 = E := by rw [← HL.out.2, if_pos h1]
    subst h1
    have hw := HW.out
    go_enter Try.func23, Try.ntmps23
    go_wp2_with (first | (go_at_call 30; (with_reducible (refine (HN.out _).mono ?_)); rintro e w' ⟨rfl, rfl⟩) | (go_at_call 29; (with_reducible (refine (HA.out _).mono ?_)); rintro e w' ⟨rfl, rfl⟩))
    refine bodyPost_end (results_none rfl _ _ _) rfl ⟨rfl, ?_⟩
    exact HP.out.2
  · obtain rfl : D = E := by rw [← HL.out.2, if_neg h1]
    have e1 : (ce2 == 1) = false := by simpa using h1
    clear h1
    go_enter Try.func23, Try.ntmps23
    go_wp2_with (first | (go_at_call 30; (with_reducible (refine (HN.out _).mono ?_)); rintro e w' ⟨rfl, rfl⟩) | (go_at_call 29; (with_reducible (refine (HA.out _).mono ?_)); rintro e w' ⟨rfl, rfl⟩))
    refine bodyPost_end (results_none rfl _ _ _) rfl ⟨rfl, ?_⟩
    exact HP.out.1
set_option maxHeartbeats 1000000 in
theorem dhas_any (h : DgAt w d r D) (hs : r.state = 0 ∨ r.state = 1 ∨ r.state = 2) : Calls Try.prog 20 #[.pointer (some ⟨d, 0, none⟩)] w fun e w' => e = .returned (.bool (hasR r)) ∧ w = w' := by
  have c0 := h.c0
  have c1 := h.c1
  obtain ⟨v, hv⟩ : ∃ v, hasR r = v := ⟨_, rfl⟩
  rw [hv]
  unfold hasR at hv
  clear h
  obtain ⟨m, s, b, l⟩ := r
  simp only at c0 c1 hv hs
  by_cases h1 : m = 1
  · subst h1
    have HV := Lib.hid (show true = v by rw [← hv]; rfl)
    clear hv hs
    go_enter Try.func20, Try.ntmps20
    go_wp2_with fail
    go_ret
    exact ⟨ret_bool HV.out, rfl⟩
  · have e1 : (m == 1) = false := by simpa using h1
    by_cases h0 : m = 0
    · subst h0
      rcases hs with rfl | rfl | rfl
      · have HV := Lib.hid (show false = v by rw [← hv]; rfl)
        clear hv h1
        go_enter Try.func20, Try.ntmps20
        go_wp2_with fail
        go_ret
        exact ⟨ret_bool HV.out, rfl⟩
      all_goals
        have HV := Lib.hid (show true = v by rw [← hv]; rfl)
        clear hv h1
        go_enter Try.func20, Try.ntmps20
        go_wp2_with fail
        go_ret
        exact ⟨ret_bool HV.out, rfl⟩
    · have e0 : (m == 0) = false := by simpa using h0
      have HV := Lib.hid (show false = v by rw [← hv, decide_eq_false h1, decide_eq_false h0]; rfl)
      clear hv h1 h0 hs
      go_enter Try.func20, Try.ntmps20
      go_wp2_with fail
      go_ret
      exact ⟨ret_bool HV.out, rfl⟩
set_option maxHeartbeats 4000000 in
theorem dhear_any (h : DgAt w d r D) {T : Int} (hr : OkR T r) (hT : Tk T) (hD : DueOk r D) (ev b : Int) :
    Calls Try.prog 21 #[.pointer (some ⟨d, 0, none⟩), .int .i64 ev, .int .i64 b, .int .i64 T] w fun x w' => x = .returned (.tuple #[]) ∧ (∃ D', DgAt w' d (hearR r ev b T) D' ∧ DueOk (hearR r ev b T) D') ∧ Touch (fun k => k = d) w w' := by
  have H0 := Lib.hid (And.intro h (And.intro hD (Touch.refl (fun k => k = d) w)))
  unfold hearR
  obtain ⟨mn, hmn⟩ : ∃ mn, min b T = mn := ⟨_, rfl⟩
  have hmT : mn ≤ T := by omega
  rw [hmn]
  by_cases hj : ev = 0 ∨ ev = 1 ∨ ev = 3
  · rw [if_pos hj]
    unfold joinR
    by_cases h0 : mn < 0
    · rw [if_pos (.inl h0)]
      have hm0 := h0
      rcases hj with rfl | rfl | rfl
      all_goals
        by_cases hlt : b ≤ T
        · obtain rfl : b = mn := by rw [← hmn, Int.min_eq_left hlt]
          clear hmn h hr hT hD hm0 hmT
          go_enter Try.func21, Try.ntmps21
          go_wp2_with fail
          exact bodyPost_ret (results_none rfl _ _ _) rfl ⟨rfl, ⟨D, H0.out.1, H0.out.2.1⟩, H0.out.2.2⟩
        · exfalso; have := hT.1; have : mn = T := by rw [← hmn, Int.min_eq_right (by omega)]
          omega
    by_cases h120 : 120 < T - mn
    · rw [if_pos (.inr h120)]
      have hw : wrap64 (T - mn) = T - mn := IntWalk.wrap64_in _ (by unfold Tk at hT; omega)
      have e0 : decide (mn < 0) = false := decide_eq_false h0
      rcases hj with rfl | rfl | rfl
      all_goals
        by_cases hlt : b ≤ T
        · obtain rfl : b = mn := by rw [← hmn, Int.min_eq_left hlt]
          clear hmn h hr hT hD h0 hmT
          go_enter Try.func21, Try.ntmps21
          go_wp2_with fail
          exact bodyPost_ret (results_none rfl _ _ _) rfl ⟨rfl, ⟨D, H0.out.1, H0.out.2.1⟩, H0.out.2.2⟩
        · exfalso; have := hT.1; have : mn = T := by rw [← hmn, Int.min_eq_right (by omega)]
          omega
    rw [if_neg (fun h => h.elim h0 h120)]
    have e0 : decide (mn < 0) = false := decide_eq_false h0
    have e120 : decide (120 < T - mn) = false := decide_eq_false h120
    have HBW := Lib.hid (show wrap64 (T - mn) = T - mn from IntWalk.wrap64_in _ (by unfold Tk at hT; omega))
    have c1 := h.c1
    have c2 := h.c2
    have f2 := h.frozen 2
    by_cases hs : r.state = 0 ∨ r.born < mn
    · have hv : (if r.state = 0 then mn else max mn r.born) = mn := by
        split
        · rfl
        · rename_i hne; exact Int.max_eq_left (by have := hs.elim (fun h => absurd h hne) id; omega)
      rw [hv]
      have h2 : DgAt (w.setCell ⟨d, 2, none⟩ (.int .i64 mn)) d ⟨r.mode, r.state, mn, r.left⟩ D := h.set_ 2 _
      have t2 : Touch (fun k => k = d) w (w.setCell ⟨d, 2, none⟩ (.int .i64 mn)) := (Touch.refl (fun k => k = d) w).set_ (a := ⟨d, 2, none⟩) (fun _ => rfl) _
      have HDU := Lib.hid (DueOk.step (r := ⟨r.mode, r.state, mn, r.left⟩) hD hr.state 0 T (.inl rfl))
      have HS := Lib.hid ((dstep_any h2 hr.state 0 T (.inl rfl) hT).mono (R' := fun x w' => x = .returned (.tuple #[]) ∧ DgAt w' d (stepR ⟨r.mode, r.state, mn, r.left⟩ 0 T) (dueS ⟨r.mode, r.state, mn, r.left⟩ D 0 T) ∧ Touch (fun k => k = d) w w') (by rintro x w' ⟨rfl, h3, t3⟩; exact ⟨rfl, h3, t2.trans t3⟩))
      have hst := hr.state
      obtain ⟨m, s, rb, l⟩ := r
      simp only at c1 c2 hs hst HS HDU ⊢
      by_cases hs0 : s = 0
      · subst hs0
        have hw := HBW.out
        rcases hj with rfl | rfl | rfl
        all_goals
          by_cases hlt : b ≤ T
          · obtain rfl : b = mn := by rw [← hmn, Int.min_eq_left hlt]
            clear hmn h hr hT hD h0 h120 hmT hs hst h2 t2 hv
            go_enter Try.func21, Try.ntmps21
            go_wp2_with (go_at_call 23; (with_reducible (refine HS.out.mono ?_)); rintro e w1 ⟨rfl, h1, t1⟩)
            exact bodyPost_end (results_none rfl _ _ _) rfl ⟨rfl, ⟨_, h1, HDU.out⟩, t1⟩
          · have hgt : T < b := by omega
            obtain rfl : T = mn := by rw [← hmn, Int.min_eq_right (by omega)]
            clear hmn e120 hw hlt h hr hT hD h0 h120 hmT hs hst h2 t2 hv
            go_enter Try.func21, Try.ntmps21
            go_wp2_with (go_at_call 23; (with_reducible (refine HS.out.mono ?_)); rintro e w1 ⟨rfl, h1, t1⟩)
            exact bodyPost_end (results_none rfl _ _ _) rfl ⟨rfl, ⟨_, h1, HDU.out⟩, t1⟩
      · have hlt' : rb < mn := hs.elim (fun h => absurd h hs0) id
        have es : (s == 0) = false := by simpa using hs0
        have hw := HBW.out
        rcases hj with rfl | rfl | rfl
        all_goals
          by_cases hlt : b ≤ T
          · obtain rfl : b = mn := by rw [← hmn, Int.min_eq_left hlt]
            clear hmn h hr hT hD h0 h120 hmT hs hst h2 t2 hv hs0
            go_enter Try.func21, Try.ntmps21
            go_wp2_with (go_at_call 23; (with_reducible (refine HS.out.mono ?_)); rintro e w1 ⟨rfl, h1, t1⟩)
            exact bodyPost_end (results_none rfl _ _ _) rfl ⟨rfl, ⟨_, h1, HDU.out⟩, t1⟩
          · have hgt : T < b := by omega
            obtain rfl : T = mn := by rw [← hmn, Int.min_eq_right (by omega)]
            clear hmn e120 hw hlt h hr hT hD h0 h120 hmT hs hst h2 t2 hv hs0
            go_enter Try.func21, Try.ntmps21
            go_wp2_with (go_at_call 23; (with_reducible (refine HS.out.mono ?_)); rintro e w1 ⟨rfl, h1, t1⟩)
            exact bodyPost_end (results_none rfl _ _ _) rfl ⟨rfl, ⟨_, h1, HDU.out⟩, t1⟩
    · have hs0 : r.state ≠ 0 := fun h => hs (.inl h)
      have hb0 : ¬ r.born < mn := fun h => hs (.inr h)
      rw [if_neg hs0, Int.max_eq_right (by omega)]
      have HDU := Lib.hid (hD.step hr.state 0 T (.inl rfl))
      have HS := Lib.hid (dstep_any h hr.state 0 T (.inl rfl) hT)
      obtain ⟨m, s, rb, l⟩ := r
      simp only at c1 c2 hs0 hb0 HS HDU ⊢
      have es : (s == 0) = false := by simpa using hs0
      have eb : decide (rb < mn) = false := decide_eq_false hb0
      have hw := HBW.out
      rcases hj with rfl | rfl | rfl
      all_goals
        by_cases hlt : b ≤ T
        · obtain rfl : b = mn := by rw [← hmn, Int.min_eq_left hlt]
          clear hmn h hr hT hD h0 h120 hmT hs hs0 hb0
          go_enter Try.func21, Try.ntmps21
          go_wp2_with (go_at_call 23; (with_reducible (refine HS.out.mono ?_)); rintro e w1 ⟨rfl, h1, t1⟩)
          exact bodyPost_end (results_none rfl _ _ _) rfl ⟨rfl, ⟨_, h1, HDU.out⟩, t1⟩
        · have hgt : T < b := by omega
          obtain rfl : T = mn := by rw [← hmn, Int.min_eq_right (by omega)]
          clear hmn e120 hw hlt h hr hT hD h0 h120 hmT hs hs0 hb0
          go_enter Try.func21, Try.ntmps21
          go_wp2_with (go_at_call 23; (with_reducible (refine HS.out.mono ?_)); rintro e w1 ⟨rfl, h1, t1⟩)
          exact bodyPost_end (results_none rfl _ _ _) rfl ⟨rfl, ⟨_, h1, HDU.out⟩, t1⟩
  · rw [if_neg hj]
    by_cases h5 : ev = 5
    · rw [if_pos h5]
      subst h5
      have HDU := Lib.hid (hD.step hr.state 1 T (.inr (.inl rfl)))
      have HS := Lib.hid (dstep_any h hr.state 1 T (.inr (.inl rfl)) hT)
      clear h hr hT hD hj hmn hmT
      go_enter Try.func21, Try.ntmps21
      go_wp2_with fail
      refine HS.out.mono ?_
      rintro e w1 ⟨rfl, h1, t1⟩
      go_wp2_with fail
      refine bodyPost_ret (results_none rfl _ _ _) rfl ?_
      exact ⟨rfl, ⟨_, h1, HDU.out⟩, t1⟩
    · rw [if_neg h5]
      have q0 : (ev == 0) = false := by simpa using fun h => hj (.inl h)
      have q1 : (ev == 1) = false := by simpa using fun h => hj (.inr (.inl h))
      have q3 : (ev == 3) = false := by simpa using fun h => hj (.inr (.inr h))
      have q5 : (ev == 5) = false := by simpa using h5
      have z0 : (ev != 0) = true := by rw [bne, q0]; rfl
      have z1 : (ev != 1) = true := by rw [bne, q1]; rfl
      have z3 : (ev != 3) = true := by rw [bne, q3]; rfl
      clear h hr hT hD hj hmn hmT h5 q0 q1 q3
      go_enter Try.func21, Try.ntmps21
      go_wp2_with fail
      exact bodyPost_ret (results_none rfl _ _ _) rfl ⟨rfl, ⟨D, H0.out.1, H0.out.2.1⟩, H0.out.2.2⟩
set_option maxHeartbeats 4000000 in
theorem dtick_any (h : DgAt w d r D) {T : Int} (hr : OkR T r) (hT : Tk T) (hD : DueOk r D) :
    Calls Try.prog 24 #[.pointer (some ⟨d, 0, none⟩), .int .i64 T] w fun x w' => x = .returned (.tuple #[]) ∧ (∃ D', DgAt w' d (tickR r T) D' ∧ DueOk (tickR r T) D') ∧ Touch (fun k => k = d) w w' := by
  have H0 := Lib.hid (And.intro h (And.intro hD (Touch.refl (fun k => k = d) w)))
  have HWR := Lib.hid (show wrap64 (T - r.born) = T - r.born from IntWalk.wrap64_in _ (by have := hr.born; unfold Tk at hT; omega))
  have c1 := h.c1
  have c2 := h.c2
  have c3 := h.c3
  by_cases hs0 : r.state = 0
  · rw [tickR_0 T hs0]
    rw [hs0] at c1
    clear h hr hT hD hs0 c2 c3
    go_enter Try.func24, Try.ntmps24
    go_wp2_with fail
    exact bodyPost_end (results_none rfl _ _ _) rfl ⟨rfl, ⟨D, H0.out.1, H0.out.2.1⟩, H0.out.2.2⟩
  by_cases hd : r.state = 1 ∧ 24 ≤ T - r.left
  · rw [tickR_A hd.1 hd.2]
    have hz : (stepR r 3 T).state = 0 := by show (cellR r.state 3).1 = 0; rw [hd.1]; rfl
    have HDU := Lib.hid (hD.step hr.state 3 T (.inr (.inr (.inr (.inl rfl)))))
    have HS := Lib.hid (dstep_any h hr.state 3 T (.inr (.inr (.inr (.inl rfl)))) hT)
    have hdd : D ≤ T := by have := hD hd.1; omega
    rw [hd.1] at c1
    obtain ⟨r', hr'⟩ : ∃ r', stepR r 3 T = r' := ⟨_, rfl⟩
    rw [hr'] at hz HDU HS ⊢
    clear h hr hT hD hs0 hd hr' c2
    go_enter Try.func24, Try.ntmps24
    go_wp2_with fail
    refine HS.out.mono ?_
    rintro e w1 ⟨rfl, h1, t1⟩
    have d1 : w1.cell? ⟨d, 1, none⟩ = some (.int .i64 0) := by rw [h1.c1, hz]
    clear c1 c3 hdd hz
    go_wp2_with fail
    exact bodyPost_end (results_none rfl _ _ _) rfl ⟨rfl, ⟨_, h1, HDU.out⟩, t1⟩
  have hd2 : r.state = 1 → ¬ D ≤ T := fun h1 h2 => hd ⟨h1, by have := hD h1; omega⟩
  by_cases ho : 120 < T - r.born
  · rw [tickR_B hs0 hd ho]
    have HDU := Lib.hid (hD.step hr.state 4 T (.inr (.inr (.inr (.inr rfl)))))
    have HS := Lib.hid (dstep_any h hr.state 4 T (.inr (.inr (.inr (.inr rfl)))) hT)
    obtain ⟨r', hr'⟩ : ∃ r', stepR r 4 T = r' := ⟨_, rfl⟩
    rw [hr'] at HDU HS ⊢
    obtain ⟨bo, hbo⟩ : ∃ bo, r.born = bo := ⟨_, rfl⟩
    rw [hbo] at c2 HWR ho
    have hw := HWR.out
    clear hr' hbo
    by_cases hs1 : r.state = 1
    · have e24 : decide (D ≤ T) = false := decide_eq_false (hd2 hs1)
      rw [hs1] at c1
      clear h hr hT hD hd hd2 hs1 hs0
      go_enter Try.func24, Try.ntmps24
      go_wp2_with (go_at_call 23; (with_reducible (refine HS.out.mono ?_)); rintro e w1 ⟨rfl, h1, t1⟩)
      exact bodyPost_end (results_none rfl _ _ _) rfl ⟨rfl, ⟨_, h1, HDU.out⟩, t1⟩
    · have hs2 : r.state = 2 := hr.state.elim (fun h => absurd h hs0) fun h => h.elim (fun h => absurd h hs1) id
      rw [hs2] at c1
      clear h hr hT hD hd hd2 hs1 hs0 hs2
      go_enter Try.func24, Try.ntmps24
      go_wp2_with (go_at_call 23; (with_reducible (refine HS.out.mono ?_)); rintro e w1 ⟨rfl, h1, t1⟩)
      exact bodyPost_end (results_none rfl _ _ _) rfl ⟨rfl, ⟨_, h1, HDU.out⟩, t1⟩
  · rw [tickR_C hd ho]
    obtain ⟨bo, hbo⟩ : ∃ bo, r.born = bo := ⟨_, rfl⟩
    rw [hbo] at c2 HWR ho
    have e120 : decide (120 < T - bo) = false := decide_eq_false ho
    have hw := HWR.out
    clear hbo ho
    by_cases hs1 : r.state = 1
    · have e24 : decide (D ≤ T) = false := decide_eq_false (hd2 hs1)
      rw [hs1] at c1
      clear h hr hT hD hd hd2 hs1 hs0
      go_enter Try.func24, Try.ntmps24
      go_wp2_with fail
      exact bodyPost_end (results_none rfl _ _ _) rfl ⟨rfl, ⟨D, H0.out.1, H0.out.2.1⟩, H0.out.2.2⟩
    · have hs2 : r.state = 2 := hr.state.elim (fun h => absurd h hs0) fun h => h.elim (fun h => absurd h hs1) id
      rw [hs2] at c1
      clear h hr hT hD hd hd2 hs1 hs0 hs2
      go_enter Try.func24, Try.ntmps24
      go_wp2_with fail
      exact bodyPost_end (results_none rfl _ _ _) rfl ⟨rfl, ⟨D, H0.out.1, H0.out.2.1⟩, H0.out.2.2⟩
end
end Go.Proofs.Ytoiapdcleagepaa
