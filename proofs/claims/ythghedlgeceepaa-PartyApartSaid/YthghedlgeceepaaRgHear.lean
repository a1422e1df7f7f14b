/- A registrar hears, is asked for all, flushed, ticked: contracts. Their conditions: it can be; ticks far from an int's ends. -/
import Derived.Test.YthghedlgeceepaaRgAsk
import Derived.IntWalk
namespace Go.Proofs.Ythghedlgeceepaa
open Go.RowKit
set_option maxRecDepth 100000

section
variable {w : World} {g : Nat} {r : Rg}
set_option maxHeartbeats 2000000 in
theorem rjoin_any (h : RgAt w g r) {T : Int} (hr : OkR T r) (hT : Tk T) (b : Int) (hb : b ≤ T) :
    Calls Try.prog 87 #[.pointer (some ⟨g, 0, none⟩), .int .i64 b, .int .i64 T] w fun x w' => x = .returned (.tuple #[]) ∧ RgAt w' g (joinR r b T) ∧ Touch (fun k => k = g) w w' := by
  unfold joinR
  by_cases h0 : b < 0
  · rw [if_pos (.inl h0)]
    have HH := Lib.hid (And.intro h (Touch.refl (fun k => k = g) w))
    clear h hr hb
    go_enter Try.func87, Try.ntmps87
    go_wp2_with fail
    exact bodyPost_ret (results_none rfl _ _ _) rfl ⟨rfl, HH.out⟩
  · have e0 : decide (b < 0) = false := decide_eq_false h0
    have HO := Lib.hid (rold_any b T (IntWalk.wrap64_in _ (by unfold Tk at hT; omega)) w)
    by_cases h1 : 120 < T - b
    · rw [if_pos (.inr h1)]
      rw [decide_eq_true h1] at HO
      have HH := Lib.hid (And.intro h (Touch.refl (fun k => k = g) w))
      clear h hr hb h0 h1
      go_enter Try.func87, Try.ntmps87
      go_wp2_with (go_at_call 66; refine HO.out.mono ?_; rintro e w' ⟨rfl, rfl⟩)
      exact bodyPost_ret (results_none rfl _ _ _) rfl ⟨rfl, HH.out⟩
    · rw [if_neg (fun h => h.elim h0 h1)]
      rw [decide_eq_false h1] at HO
      have c1 := h.c1
      have c2 := h.c2
      have f2 := h.frozen 2
      have HS := Lib.hid (fun (v : Int) => show Calls Try.prog 65 #[.pointer (some ⟨g, 0, none⟩), .int .i64 0, .int .i64 T] (w.setCell ⟨g, 2, none⟩ (.int .i64 v)) fun x w' => x = .returned (.tuple #[]) ∧ RgAt w' g (stepR ⟨r.mode, r.state, v, r.left⟩ 0 T) ∧ Touch (fun k => k = g) w w' by
        have h2 : RgAt (w.setCell ⟨g, 2, none⟩ (.int .i64 v)) g ⟨r.mode, r.state, v, r.left⟩ := h.set_ 2 _
        have t2 : Touch (fun k => k = g) w (w.setCell ⟨g, 2, none⟩ (.int .i64 v)) := (Touch.refl (fun k => k = g) w).set_ (a := ⟨g, 2, none⟩) (fun _ => rfl) _
        refine (rstep_any h2 hr.state 0 T (.inl rfl)).mono ?_
        rintro x w' ⟨rfl, h3, t3⟩
        exact ⟨rfl, h3, t2.trans t3⟩)
      obtain ⟨m, s, rb, l⟩ := r
      simp only at c1 c2 HS ⊢
      clear h hr hb h0 h1 hT
      by_cases hs : s = 0
      · subst hs
        rw [if_pos rfl]
        go_enter Try.func87, Try.ntmps87
        go_wp2_with (first | (go_at_call 66; refine HO.out.mono ?_; rintro e w' ⟨rfl, rfl⟩) | (go_at_call 65; refine (HS.out _).mono ?_; rintro e w' ⟨rfl, h9, t9⟩))
        exact bodyPost_end (results_none rfl _ _ _) rfl ⟨rfl, h9, t9⟩
      · rw [if_neg hs]
        have es : (s == 0) = false := by simpa using hs
        clear hs
        by_cases hlt : b < rb
        · rw [Int.max_eq_right (Int.le_of_lt hlt)]
          go_enter Try.func87, Try.ntmps87
          go_wp2_with (first | (go_at_call 66; refine HO.out.mono ?_; rintro e w' ⟨rfl, rfl⟩) | (go_at_call 65; refine (HS.out _).mono ?_; rintro e w' ⟨rfl, h9, t9⟩))
          exact bodyPost_end (results_none rfl _ _ _) rfl ⟨rfl, h9, t9⟩
        · rw [Int.max_eq_left (Int.not_lt.1 hlt)]
          go_enter Try.func87, Try.ntmps87
          go_wp2_with (first | (go_at_call 66; refine HO.out.mono ?_; rintro e w' ⟨rfl, rfl⟩) | (go_at_call 65; refine (HS.out _).mono ?_; rintro e w' ⟨rfl, h9, t9⟩))
          exact bodyPost_end (results_none rfl _ _ _) rfl ⟨rfl, h9, t9⟩
theorem rhear_nil (ev b T : Int) (w : World) : Calls Try.prog 64 #[.pointer none, .int .i64 ev, .int .i64 b, .int .i64 T] w fun x w' => x = .returned (.bool false) ∧ w = w' := by
  go_enter Try.func64, Try.ntmps64
  go_wp2_with fail
  go_ret
  exact ⟨rfl, rfl⟩
theorem bool_ne (a b : Bool) : (if a = b then false else true) = (a != b) := by cases a <;> cases b <;> rfl
set_option maxHeartbeats 4000000 in
theorem rhear_any (h : RgAt w g r) {T : Int} (hr : OkR T r) (hT : Tk T) (ev b : Int) :
    Calls Try.prog 64 #[.pointer (some ⟨g, 0, none⟩), .int .i64 ev, .int .i64 b, .int .i64 T] w fun x w' => x = .returned (.bool (hasR (hearR r ev b T) != hasR r)) ∧ RgAt w' g (hearR r ev b T) ∧ Touch (fun k => k = g) w w' := by
  have HH := Lib.hid (fun (w : World) (r : Rg) (h : RgAt w g r) => rhas_any h)
  have H0 := Lib.hid h
  have HJ := Lib.hid (rjoin_any h hr hT (min b T) (by omega))
  have HS := Lib.hid (rstep_any h hr.state 1 T (.inr (.inl rfl)))
  have HT0 := Lib.hid (Touch.refl (fun k => k = g) w)
  clear h hr hT
  obtain ⟨mn, hmn⟩ : ∃ mn, min b T = mn := ⟨_, rfl⟩
  unfold hearR
  rw [hmn] at HJ ⊢
  obtain ⟨b0, hb0⟩ : ∃ b0, hasR r = b0 := ⟨_, rfl⟩
  have HH0 := Lib.hid (show Calls Try.prog 44 #[.pointer (some ⟨g, 0, none⟩)] w fun e w' => e = .returned (.bool b0) ∧ w = w' by rw [← hb0]; exact HH.out _ _ H0.out)
  rw [hb0]
  by_cases h0 : ev = 0
  · subst h0
    rw [if_pos (.inl rfl)]
    obtain ⟨r', hr'⟩ : ∃ r', joinR r mn T = r' := ⟨_, rfl⟩
    rw [hr'] at HJ ⊢
    clear hr'
    obtain ⟨b1, hb1⟩ : ∃ b1, hasR r' = b1 := ⟨_, rfl⟩
    have HH1 := Lib.hid (fun (w : World) (h : RgAt w g r') => show Calls Try.prog 44 #[.pointer (some ⟨g, 0, none⟩)] w fun e w' => e = .returned (.bool b1) ∧ w = w' by rw [← hb1]; exact HH.out _ _ h)
    rw [hb1]
    clear hb1 hb0 HH H0
    by_cases hlt : b ≤ T
    · obtain rfl : b = mn := by rw [← hmn, Int.min_eq_left hlt]
      clear hmn 
      go_enter Try.func64, Try.ntmps64
      go_wp2_with (first | (go_at_call 44; (with_reducible (refine HH0.out.mono ?_)); rintro e w' ⟨rfl, rfl⟩) | (go_at_call 87; (with_reducible (refine HJ.out.mono ?_)); rintro e w1 ⟨rfl, h1, t1⟩) | (go_at_call 44; (with_reducible (refine (HH1.out _ h1).mono ?_)); rintro e w' ⟨rfl, rfl⟩))
      go_ret
      exact ⟨rfl, h1, t1⟩
    · obtain rfl : T = mn := by rw [← hmn, Int.min_eq_right (by omega)]
      clear hmn 
      go_enter Try.func64, Try.ntmps64
      go_wp2_with (first | (go_at_call 44; (with_reducible (refine HH0.out.mono ?_)); rintro e w' ⟨rfl, rfl⟩) | (go_at_call 87; (with_reducible (refine HJ.out.mono ?_)); rintro e w1 ⟨rfl, h1, t1⟩) | (go_at_call 44; (with_reducible (refine (HH1.out _ h1).mono ?_)); rintro e w' ⟨rfl, rfl⟩))
      go_ret
      exact ⟨rfl, h1, t1⟩
  by_cases h1 : ev = 1
  · subst h1
    rw [if_pos (.inr (.inl rfl))]
    obtain ⟨r', hr'⟩ : ∃ r', joinR r mn T = r' := ⟨_, rfl⟩
    rw [hr'] at HJ ⊢
    clear hr'
    obtain ⟨b1, hb1⟩ : ∃ b1, hasR r' = b1 := ⟨_, rfl⟩
    have HH1 := Lib.hid (fun (w : World) (h : RgAt w g r') => show Calls Try.prog 44 #[.pointer (some ⟨g, 0, none⟩)] w fun e w' => e = .returned (.bool b1) ∧ w = w' by rw [← hb1]; exact HH.out _ _ h)
    rw [hb1]
    clear hb1 hb0 HH H0
    by_cases hlt : b ≤ T
    · obtain rfl : b = mn := by rw [← hmn, Int.min_eq_left hlt]
      clear hmn h0
      go_enter Try.func64, Try.ntmps64
      go_wp2_with (first | (go_at_call 44; (with_reducible (refine HH0.out.mono ?_)); rintro e w' ⟨rfl, rfl⟩) | (go_at_call 87; (with_reducible (refine HJ.out.mono ?_)); rintro e w1 ⟨rfl, h1, t1⟩) | (go_at_call 44; (with_reducible (refine (HH1.out _ h1).mono ?_)); rintro e w' ⟨rfl, rfl⟩))
      go_ret
      exact ⟨rfl, h1, t1⟩
    · obtain rfl : T = mn := by rw [← hmn, Int.min_eq_right (by omega)]
      clear hmn h0
      go_enter Try.func64, Try.ntmps64
      go_wp2_with (first | (go_at_call 44; (with_reducible (refine HH0.out.mono ?_)); rintro e w' ⟨rfl, rfl⟩) | (go_at_call 87; (with_reducible (refine HJ.out.mono ?_)); rintro e w1 ⟨rfl, h1, t1⟩) | (go_at_call 44; (with_reducible (refine (HH1.out _ h1).mono ?_)); rintro e w' ⟨rfl, rfl⟩))
      go_ret
      exact ⟨rfl, h1, t1⟩
  by_cases h3 : ev = 3
  · subst h3
    rw [if_pos (.inr (.inr rfl))]
    obtain ⟨r', hr'⟩ : ∃ r', joinR r mn T = r' := ⟨_, rfl⟩
    rw [hr'] at HJ ⊢
    clear hr'
    obtain ⟨b1, hb1⟩ : ∃ b1, hasR r' = b1 := ⟨_, rfl⟩
    have HH1 := Lib.hid (fun (w : World) (h : RgAt w g r') => show Calls Try.prog 44 #[.pointer (some ⟨g, 0, none⟩)] w fun e w' => e = .returned (.bool b1) ∧ w = w' by rw [← hb1]; exact HH.out _ _ h)
    rw [hb1]
    clear hb1 hb0 HH H0
    by_cases hlt : b ≤ T
    · obtain rfl : b = mn := by rw [← hmn, Int.min_eq_left hlt]
      clear hmn h0 h1
      go_enter Try.func64, Try.ntmps64
      go_wp2_with (first | (go_at_call 44; (with_reducible (refine HH0.out.mono ?_)); rintro e w' ⟨rfl, rfl⟩) | (go_at_call 87; (with_reducible (refine HJ.out.mono ?_)); rintro e w1 ⟨rfl, h1, t1⟩) | (go_at_call 44; (with_reducible (refine (HH1.out _ h1).mono ?_)); rintro e w' ⟨rfl, rfl⟩))
      go_ret
      exact ⟨rfl, h1, t1⟩
    · obtain rfl : T = mn := by rw [← hmn, Int.min_eq_right (by omega)]
      clear hmn h0 h1
      go_enter Try.func64, Try.ntmps64
      go_wp2_with (first | (go_at_call 44; (with_reducible (refine HH0.out.mono ?_)); rintro e w' ⟨rfl, rfl⟩) | (go_at_call 87; (with_reducible (refine HJ.out.mono ?_)); rintro e w1 ⟨rfl, h1, t1⟩) | (go_at_call 44; (with_reducible (refine (HH1.out _ h1).mono ?_)); rintro e w' ⟨rfl, rfl⟩))
      go_ret
      exact ⟨rfl, h1, t1⟩
  rw [if_neg (fun h => h.elim h0 fun h => h.elim h1 h3)]
  clear HJ hmn
  by_cases h5 : ev = 5
  · subst h5
    rw [if_pos rfl]
    obtain ⟨r', hr'⟩ : ∃ r', stepR r 1 T = r' := ⟨_, rfl⟩
    rw [hr'] at HS ⊢
    clear hr'
    obtain ⟨b1, hb1⟩ : ∃ b1, hasR r' = b1 := ⟨_, rfl⟩
    have HH1 := Lib.hid (fun (w : World) (h : RgAt w g r') => show Calls Try.prog 44 #[.pointer (some ⟨g, 0, none⟩)] w fun e w' => e = .returned (.bool b1) ∧ w = w' by rw [← hb1]; exact HH.out _ _ h)
    rw [hb1]
    clear hb1 hb0 HH H0
    clear h0 h1 h3
    go_enter Try.func64, Try.ntmps64
    go_wp2_with (first | (go_at_call 44; (with_reducible (refine HH0.out.mono ?_)); rintro e w' ⟨rfl, rfl⟩) | (go_at_call 65; (with_reducible (refine HS.out.mono ?_)); rintro e w1 ⟨rfl, h1, t1⟩) | (go_at_call 44; (with_reducible (refine (HH1.out _ h1).mono ?_)); rintro e w' ⟨rfl, rfl⟩))
    go_ret
    exact ⟨rfl, h1, t1⟩
  · rw [if_neg h5, hb0]
    have e0 : (ev == 0) = false := by simpa using h0
    have e1 : (ev == 1) = false := by simpa using h1
    have e3 : (ev == 3) = false := by simpa using h3
    have e5 : (ev == 5) = false := by simpa using h5
    clear h0 h1 h3 h5 hb0 HH HS
    go_enter Try.func64, Try.ntmps64
    go_wp2_with (go_at_call 44; (with_reducible (refine HH0.out.mono ?_)); rintro e w' ⟨rfl, rfl⟩)
    go_ret
    exact ⟨ret_bool (by cases b0 <;> rfl), H0.out, HT0.out⟩
theorem rall_any (h : RgAt w g r) {T : Int} (hr : OkR T r) : Calls Try.prog 62 #[.pointer (some ⟨g, 0, none⟩), .int .i64 T] w fun x w' => x = .returned (.tuple #[]) ∧ RgAt w' g (stepR r 2 T) ∧ Touch (fun k => k = g) w w' := by
  have HS := Lib.hid (rstep_any h hr.state 2 T (.inr (.inr (.inl rfl))))
  clear h hr
  go_enter Try.func62, Try.ntmps62
  go_wp2_with (go_at_call 65; refine HS.out.mono ?_; rintro e w1 ⟨rfl, h1, t1⟩)
  exact bodyPost_end (results_none rfl _ _ _) rfl ⟨rfl, h1, t1⟩
theorem rflush_nil (T : Int) (w : World) : Calls Try.prog 43 #[.pointer none, .int .i64 T] w fun x w' => x = .returned (.bool false) ∧ w = w' := by
  go_enter Try.func43, Try.ntmps43
  go_wp2_with fail
  go_ret
  exact ⟨rfl, rfl⟩
theorem rtick_nil (T : Int) (w : World) : Calls Try.prog 34 #[.pointer none, .int .i64 T] w fun x w' => x = .returned (.bool false) ∧ w = w' := by
  go_enter Try.func34, Try.ntmps34
  go_wp2_with fail
  go_ret
  exact ⟨rfl, rfl⟩
set_option maxHeartbeats 4000000 in
theorem rflush_any (h : RgAt w g r) {T : Int} (hr : OkR T r) : Calls Try.prog 43 #[.pointer (some ⟨g, 0, none⟩), .int .i64 T] w fun x w' => x = .returned (.bool (hasR (stepR r 4 T) != hasR r)) ∧ RgAt w' g (stepR r 4 T) ∧ Touch (fun k => k = g) w w' := by
  have HH := Lib.hid (fun (w : World) (r : Rg) (h : RgAt w g r) => rhas_any h)
  have H0 := Lib.hid h
  have HS := Lib.hid (rstep_any h hr.state 4 T (.inr (.inr (.inr (.inr rfl)))))
  clear h hr
  obtain ⟨b0, hb0⟩ : ∃ b0, hasR r = b0 := ⟨_, rfl⟩
  have HH0 := Lib.hid (show Calls Try.prog 44 #[.pointer (some ⟨g, 0, none⟩)] w fun e w' => e = .returned (.bool b0) ∧ w = w' by rw [← hb0]; exact HH.out _ _ H0.out)
  rw [hb0]
  obtain ⟨r', hr'⟩ : ∃ r', stepR r 4 T = r' := ⟨_, rfl⟩
  rw [hr'] at HS ⊢
  clear hr'
  obtain ⟨b1, hb1⟩ : ∃ b1, hasR r' = b1 := ⟨_, rfl⟩
  have HH1 := Lib.hid (fun (w : World) (h : RgAt w g r') => show Calls Try.prog 44 #[.pointer (some ⟨g, 0, none⟩)] w fun e w' => e = .returned (.bool b1) ∧ w = w' by rw [← hb1]; exact HH.out _ _ h)
  rw [hb1]
  clear hb1 hb0 HH H0
  go_enter Try.func43, Try.ntmps43
  go_wp2_with (first | (go_at_call 44; (with_reducible (refine HH0.out.mono ?_)); rintro e w' ⟨rfl, rfl⟩) | (go_at_call 65; (with_reducible (refine HS.out.mono ?_)); rintro e w1 ⟨rfl, h1, t1⟩) | (go_at_call 44; (with_reducible (refine (HH1.out _ h1).mono ?_)); rintro e w' ⟨rfl, rfl⟩))
  go_ret
  exact ⟨rfl, h1, t1⟩
set_option maxHeartbeats 4000000 in
theorem rtick_any (h : RgAt w g r) {T : Int} (hr : OkR T r) (hT : Tk T) : Calls Try.prog 34 #[.pointer (some ⟨g, 0, none⟩), .int .i64 T] w fun x w' => x = .returned (.bool (hasR (tickR r T) != hasR r)) ∧ RgAt w' g (tickR r T) ∧ Touch (fun k => k = g) w w' := by
  have HH := Lib.hid (fun (w : World) (r : Rg) (h : RgAt w g r) => rhas_any h)
  have H0 := Lib.hid h
  have HT0 := Lib.hid (Touch.refl (fun k => k = g) w)
  have hS3 := rstep_any h hr.state 3 T (.inr (.inr (.inr (.inl rfl))))
  have hS4 := rstep_any h hr.state 4 T (.inr (.inr (.inr (.inr rfl))))
  have HO := Lib.hid (fun w : World => rold_any r.born T (IntWalk.wrap64_in _ (by have := hr.born; unfold Tk at hT; omega)) w)
  have HWR := Lib.hid (show wrap64 (T - r.left) = T - r.left from IntWalk.wrap64_in _ (by have := hr.left; unfold Tk at hT; omega))
  have c1 := h.c1
  have c2 := h.c2
  have c3 := h.c3
  have hst := hr.state
  obtain ⟨b0, hb0⟩ : ∃ b0, hasR r = b0 := ⟨_, rfl⟩
  have HH0 := Lib.hid (show Calls Try.prog 44 #[.pointer (some ⟨g, 0, none⟩)] w fun e w' => e = .returned (.bool b0) ∧ w = w' by rw [← hb0]; exact HH.out _ _ H0.out)
  rw [hb0]
  have same : (b0 != b0) = false := by cases b0 <;> rfl
  have HSAME := Lib.hid same
  clear h hr hT same
  by_cases hs0 : r.state = 0
  · rw [tickR_0 T hs0]
    rw [hs0] at c1
    rw [hb0]
    clear hS3 hS4 hst hs0 hb0 HH HO HWR c2 c3
    go_enter Try.func34, Try.ntmps34
    go_wp2_with (first | (go_at_call 66; (with_reducible (refine (HO.out _).mono ?_)); rintro e w' ⟨rfl, rfl⟩) | (go_at_call 44; (with_reducible (refine HH0.out.mono ?_)); rintro e w' ⟨rfl, rfl⟩))
    go_ret
    exact ⟨ret_bool (by cases b0 <;> rfl), H0.out, HT0.out⟩
  by_cases hd : r.state = 1 ∧ 24 ≤ T - r.left
  · rw [tickR_A hd.1 hd.2]
    have hz : (stepR r 3 T).state = 0 := by show (cellR r.state 3).1 = 0; rw [hd.1]; rfl
    rw [hd.1] at c1
    have HS := Lib.hid hS3
    have hd2 := hd.2
    obtain ⟨le, hle⟩ : ∃ le, r.left = le := ⟨_, rfl⟩
    obtain ⟨bo, hbo⟩ : ∃ bo, r.born = bo := ⟨_, rfl⟩
    rw [hle] at c3 HWR
    rw [hbo] at c2 HO
    rw [hle] at hd2
    have hw := HWR.out
    clear hle hbo hd hs0 hst hS3 hS4
    obtain ⟨r', hr'⟩ : ∃ r', stepR r 3 T = r' := ⟨_, rfl⟩
    rw [hr'] at HS hz ⊢
    clear hr'
    obtain ⟨b1, hb1⟩ : ∃ b1, hasR r' = b1 := ⟨_, rfl⟩
    have HH1 := Lib.hid (fun (w : World) (h : RgAt w g r') => show Calls Try.prog 44 #[.pointer (some ⟨g, 0, none⟩)] w fun e w' => e = .returned (.bool b1) ∧ w = w' by rw [← hb1]; exact HH.out _ _ h)
    rw [hb1]
    clear hb1 hb0 HH H0
    go_enter Try.func34, Try.ntmps34
    go_wp2_with (go_at_call 44; (with_reducible (refine HH0.out.mono ?_)); rintro e w' ⟨rfl, rfl⟩)
    refine HS.out.mono ?_
    rintro e w1 ⟨rfl, h1, t1⟩
    have d1 : w1.cell? ⟨g, 1, none⟩ = some (.int .i64 0) := by rw [h1.c1, hz]
    clear c1 c2 c3 hd2 hz
    go_wp2_with (go_at_call 44; (with_reducible (refine (HH1.out _ h1).mono ?_)); rintro e w' ⟨rfl, rfl⟩)
    go_ret
    exact ⟨rfl, h1, t1⟩
  by_cases ho : 120 < T - r.born
  · rw [tickR_B hs0 hd ho]
    have HS := Lib.hid hS4
    obtain ⟨r', hr'⟩ : ∃ r', stepR r 4 T = r' := ⟨_, rfl⟩
    rw [hr'] at HS ⊢
    clear hr'
    obtain ⟨b1, hb1⟩ : ∃ b1, hasR r' = b1 := ⟨_, rfl⟩
    have HH1 := Lib.hid (fun (w : World) (h : RgAt w g r') => show Calls Try.prog 44 #[.pointer (some ⟨g, 0, none⟩)] w fun e w' => e = .returned (.bool b1) ∧ w = w' by rw [← hb1]; exact HH.out _ _ h)
    rw [hb1]
    clear hb1 hb0 HH H0
    rw [decide_eq_true ho] at HO
    have hd' := hd
    obtain ⟨le, hle⟩ : ∃ le, r.left = le := ⟨_, rfl⟩
    obtain ⟨bo, hbo⟩ : ∃ bo, r.born = bo := ⟨_, rfl⟩
    rw [hle] at c3 HWR
    rw [hbo] at c2 HO
    rw [hle] at hd'
    have hw := HWR.out
    clear hle hbo hS3 hS4 hd
    by_cases hs1 : r.state = 1
    · rw [hs1] at c1 hd'
      have e24 : decide (24 ≤ T - le) = false := decide_eq_false (fun h => hd' ⟨rfl, h⟩)
      clear hd' hs1 hs0 hst ho
      go_enter Try.func34, Try.ntmps34
      go_wp2_with (first | (go_at_call 66; (with_reducible (refine (HO.out _).mono ?_)); rintro e w' ⟨rfl, rfl⟩) | (go_at_call 44; (with_reducible (refine HH0.out.mono ?_)); rintro e w' ⟨rfl, rfl⟩) | (go_at_call 65; (with_reducible (refine HS.out.mono ?_)); rintro e w1 ⟨rfl, h1, t1⟩) | (go_at_call 44; (with_reducible (refine (HH1.out _ h1).mono ?_)); rintro e w' ⟨rfl, rfl⟩))
      go_ret
      exact ⟨rfl, h1, t1⟩
    · clear hw
      have hs2 : r.state = 2 := hst.elim (fun h => absurd h hs0) fun h => h.elim (fun h => absurd h hs1) id
      rw [hs2] at c1
      clear hd' hs1 hs0 hst ho hs2
      go_enter Try.func34, Try.ntmps34
      go_wp2_with (first | (go_at_call 66; (with_reducible (refine (HO.out _).mono ?_)); rintro e w' ⟨rfl, rfl⟩) | (go_at_call 44; (with_reducible (refine HH0.out.mono ?_)); rintro e w' ⟨rfl, rfl⟩) | (go_at_call 65; (with_reducible (refine HS.out.mono ?_)); rintro e w1 ⟨rfl, h1, t1⟩) | (go_at_call 44; (with_reducible (refine (HH1.out _ h1).mono ?_)); rintro e w' ⟨rfl, rfl⟩))
      go_ret
      exact ⟨rfl, h1, t1⟩
  · rw [tickR_C hd ho]
    rw [decide_eq_false ho] at HO
    have hd' := hd
    obtain ⟨le, hle⟩ : ∃ le, r.left = le := ⟨_, rfl⟩
    obtain ⟨bo, hbo⟩ : ∃ bo, r.born = bo := ⟨_, rfl⟩
    rw [hle] at c3 HWR
    rw [hbo] at c2 HO
    rw [hle] at hd'
    have hw := HWR.out
    clear hle hbo hS3 hS4 hd
    by_cases hs1 : r.state = 1
    · rw [hs1] at c1 hd'
      have e24 : decide (24 ≤ T - le) = false := decide_eq_false (fun h => hd' ⟨rfl, h⟩)
      clear hd' hs1 hs0 hst ho
      rw [hb0]
      clear hb0
      go_enter Try.func34, Try.ntmps34
      go_wp2_with (first | (go_at_call 66; (with_reducible (refine (HO.out _).mono ?_)); rintro e w' ⟨rfl, rfl⟩) | (go_at_call 44; (with_reducible (refine HH0.out.mono ?_)); rintro e w' ⟨rfl, rfl⟩))
      go_ret
      exact ⟨ret_bool (by cases b0 <;> rfl), H0.out, HT0.out⟩
    · clear hw
      have hs2 : r.state = 2 := hst.elim (fun h => absurd h hs0) fun h => h.elim (fun h => absurd h hs1) id
      rw [hs2] at c1
      clear hd' hs1 hs0 hst ho hs2
      rw [hb0]
      clear hb0
      go_enter Try.func34, Try.ntmps34
      go_wp2_with (first | (go_at_call 66; (with_reducible (refine (HO.out _).mono ?_)); rintro e w' ⟨rfl, rfl⟩) | (go_at_call 44; (with_reducible (refine HH0.out.mono ?_)); rintro e w' ⟨rfl, rfl⟩))
      go_ret
      exact ⟨ret_bool (by cases b0 <;> rfl), H0.out, HT0.out⟩
end
end Go.Proofs.Ythghedlgeceepaa
