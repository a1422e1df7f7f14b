/- What a registrar answers when it is asked: Mode, State, Has, Born, Idle; a new one, another mode; a nil one. No condition. -/
import Derived.Test.YthghedlgeceepaaRgStep
namespace Go.Proofs.Ythghedlgeceepaa
open Go.RowKit
set_option maxRecDepth 100000

section
variable {w : World} {g : Nat} {r : Rg}
theorem rmode_any (h : RgAt w g r) : Calls Try.prog 72 #[.pointer (some ⟨g, 0, none⟩)] w fun e w' => e = .returned (.int .i64 r.mode) ∧ w = w' := by
  have c0 := h.c0
  clear h
  go_enter Try.func72, Try.ntmps72
  go_wp2_with fail
  go_ret
  exact ⟨rfl, rfl⟩
theorem rstate_any (h : RgAt w g r) : Calls Try.prog 73 #[.pointer (some ⟨g, 0, none⟩)] w fun e w' => e = .returned (.int .i64 r.state) ∧ w = w' := by
  have c1 := h.c1
  clear h
  go_enter Try.func73, Try.ntmps73
  go_wp2_with fail
  go_ret
  exact ⟨rfl, rfl⟩
theorem rmode_nil (w : World) : Calls Try.prog 72 #[.pointer none] w fun e w' => e = .returned (.int .i64 0) ∧ w = w' := by
  go_enter Try.func72, Try.ntmps72
  go_wp2_with fail
  go_ret
  exact ⟨rfl, rfl⟩
theorem rstate_nil (w : World) : Calls Try.prog 73 #[.pointer none] w fun e w' => e = .returned (.int .i64 0) ∧ w = w' := by
  go_enter Try.func73, Try.ntmps73
  go_wp2_with fail
  go_ret
  exact ⟨rfl, rfl⟩
set_option maxHeartbeats 1000000 in
theorem rhas_any (h : RgAt w g r) : Calls Try.prog 44 #[.pointer (some ⟨g, 0, none⟩)] w fun e w' => e = .returned (.bool (hasR r)) ∧ w = w' := by
  have HM := Lib.hid (rmode_any h)
  have HS := Lib.hid (rstate_any h)
  obtain ⟨v, hv⟩ : ∃ v, hasR r = v := ⟨_, rfl⟩
  rw [hv]
  unfold hasR at hv
  clear h
  obtain ⟨m, s, b, l⟩ := r
  simp only at HM HS hv
  by_cases h1 : m = 1
  · subst h1
    have HV := Lib.hid (show true = v by rw [← hv]; rfl)
    clear hv
    go_enter Try.func44, Try.ntmps44
    go_wp2_with (go_at_call 72; refine HM.out.mono ?_; rintro e w' ⟨rfl, rfl⟩)
    go_ret
    exact ⟨ret_bool HV.out, rfl⟩
  · have e1 : (m == 1) = false := by simpa using h1
    by_cases h0 : m = 0
    · subst h0
      by_cases hs : s = 0
      · subst hs
        have HV := Lib.hid (show false = v by rw [← hv]; rfl)
        clear hv h1
        go_enter Try.func44, Try.ntmps44
        go_wp2_with (first | (go_at_call 72; refine HM.out.mono ?_; rintro e w' ⟨rfl, rfl⟩) | (go_at_call 73; refine HS.out.mono ?_; rintro e w' ⟨rfl, rfl⟩))
        go_ret
        exact ⟨ret_bool HV.out, rfl⟩
      · have e2 : (s == 0) = false := by simpa using hs
        have HV := Lib.hid (show (s != 0) = v by rw [← hv, decide_eq_true hs, bne, e2]; rfl)
        clear hv h1 hs
        go_enter Try.func44, Try.ntmps44
        go_wp2_with (first | (go_at_call 72; refine HM.out.mono ?_; rintro e w' ⟨rfl, rfl⟩) | (go_at_call 73; refine HS.out.mono ?_; rintro e w' ⟨rfl, rfl⟩))
        go_ret
        exact ⟨ret_bool HV.out, rfl⟩
    · have e0 : (m == 0) = false := by simpa using h0
      have HV := Lib.hid (show false = v by rw [← hv, decide_eq_false h1, decide_eq_false h0]; rfl)
      clear hv h1 h0
      go_enter Try.func44, Try.ntmps44
      go_wp2_with (go_at_call 72; refine HM.out.mono ?_; rintro e w' ⟨rfl, rfl⟩)
      go_ret
      exact ⟨ret_bool HV.out, rfl⟩
theorem rhas_nil (w : World) : Calls Try.prog 44 #[.pointer none] w fun e w' => e = .returned (.bool false) ∧ w = w' := by
  have HM := Lib.hid (rmode_nil w)
  have HS := Lib.hid (rstate_nil w)
  go_enter Try.func44, Try.ntmps44
  go_wp2_with (first | (go_at_call 72; refine HM.out.mono ?_; rintro e w' ⟨rfl, rfl⟩) | (go_at_call 73; refine HS.out.mono ?_; rintro e w' ⟨rfl, rfl⟩))
  go_ret
  exact ⟨rfl, rfl⟩
set_option maxHeartbeats 1000000 in
theorem rborn_any (h : RgAt w g r) (now : Int) : Calls Try.prog 45 #[.pointer (some ⟨g, 0, none⟩), .int .i64 now] w fun e w' => e = .returned (.int .i64 (bornR r now)) ∧ w = w' := by
  have HH := Lib.hid (rhas_any h)
  have c0 := h.c0
  have c2 := h.c2
  obtain ⟨v, hv⟩ : ∃ v, bornR r now = v := ⟨_, rfl⟩
  rw [hv]
  unfold bornR at hv
  clear h
  cases hh : hasR r with
  | false =>
    rw [hh] at HH hv
    have HV := Lib.hid (show -1 = v from hv)
    clear hv hh
    go_enter Try.func45, Try.ntmps45
    go_wp2_with (go_at_call 44; refine HH.out.mono ?_; rintro e w' ⟨rfl, rfl⟩)
    go_ret
    exact ⟨ret_i64 HV.out, rfl⟩
  | true =>
    rw [hh, if_pos rfl] at hv
    rw [hh] at HH
    clear hh
    obtain ⟨m, s, b, l⟩ := r
    simp only at HH hv c0 c2
    by_cases h1 : m = 1
    · subst h1
      have HV := Lib.hid (show now = v from hv)
      clear hv
      go_enter Try.func45, Try.ntmps45
      go_wp2_with (go_at_call 44; refine HH.out.mono ?_; rintro e w' ⟨rfl, rfl⟩)
      go_ret
      exact ⟨ret_i64 HV.out, rfl⟩
    · have e1 : (m == 1) = false := by simpa using h1
      rw [if_neg h1] at hv
      have HV := Lib.hid (show b = v from hv)
      clear hv h1
      go_enter Try.func45, Try.ntmps45
      go_wp2_with (go_at_call 44; refine HH.out.mono ?_; rintro e w' ⟨rfl, rfl⟩)
      go_ret
      exact ⟨ret_i64 HV.out, rfl⟩
theorem rborn_nil (now : Int) (w : World) : Calls Try.prog 45 #[.pointer none, .int .i64 now] w fun e w' => e = .returned (.int .i64 (-1)) ∧ w = w' := by
  have HH := Lib.hid (rhas_nil w)
  go_enter Try.func45, Try.ntmps45
  go_wp2_with (go_at_call 44; refine HH.out.mono ?_; rintro e w' ⟨rfl, rfl⟩)
  go_ret
  exact ⟨rfl, rfl⟩
set_option maxHeartbeats 1000000 in
theorem ridle_any (h : RgAt w g r) : Calls Try.prog 81 #[.pointer (some ⟨g, 0, none⟩)] w fun e w' => e = .returned (.bool (idleR r)) ∧ w = w' := by
  have HM := Lib.hid (rmode_any h)
  have HS := Lib.hid (rstate_any h)
  obtain ⟨v, hv⟩ : ∃ v, idleR r = v := ⟨_, rfl⟩
  rw [hv]
  unfold idleR at hv
  clear h
  obtain ⟨m, s, b, l⟩ := r
  simp only at HM HS hv
  by_cases h0 : m = 0
  · subst h0
    by_cases hs : s = 0
    · subst hs
      have HV := Lib.hid (show true = v by rw [← hv]; rfl)
      clear hv
      go_enter Try.func81, Try.ntmps81
      go_wp2_with (first | (go_at_call 72; refine HM.out.mono ?_; rintro e w' ⟨rfl, rfl⟩) | (go_at_call 73; refine HS.out.mono ?_; rintro e w' ⟨rfl, rfl⟩))
      go_ret
      exact ⟨ret_bool HV.out, rfl⟩
    · have HV := Lib.hid (show false = v by rw [← hv, decide_eq_false hs]; rfl)
      have e2 : (s == 0) = false := by simpa using hs
      clear hv hs
      go_enter Try.func81, Try.ntmps81
      go_wp2_with (first | (go_at_call 72; refine HM.out.mono ?_; rintro e w' ⟨rfl, rfl⟩) | (go_at_call 73; refine HS.out.mono ?_; rintro e w' ⟨rfl, rfl⟩))
      go_ret
      exact ⟨ret_bool HV.out, rfl⟩
  · have e0 : (m == 0) = false := by simpa using h0
    have HV := Lib.hid (show false = v by rw [← hv, decide_eq_false h0]; rfl)
    clear hv h0
    go_enter Try.func81, Try.ntmps81
    go_wp2_with (go_at_call 72; refine HM.out.mono ?_; rintro e w' ⟨rfl, rfl⟩)
    go_ret
    exact ⟨ret_bool HV.out, rfl⟩
theorem ridle_nil (w : World) : Calls Try.prog 81 #[.pointer none] w fun e w' => e = .returned (.bool true) ∧ w = w' := by
  have HM := Lib.hid (rmode_nil w)
  have HS := Lib.hid (rstate_nil w)
  go_enter Try.func81, Try.ntmps81
  go_wp2_with (first | (go_at_call 72; refine HM.out.mono ?_; rintro e w' ⟨rfl, rfl⟩) | (go_at_call 73; refine HS.out.mono ?_; rintro e w' ⟨rfl, rfl⟩))
  go_ret
  exact ⟨rfl, rfl⟩
theorem rset_nil (m : Int) (w : World) : Calls Try.prog 27 #[.pointer none, .int .i64 m] w fun e w' => e = .returned (.int .i64 2) ∧ w = w' := by
  go_enter Try.func27, Try.ntmps27
  go_wp2_with fail
  go_ret
  exact ⟨rfl, rfl⟩
theorem rset_bad (m : Int) (hm : goodMd m = false) : Calls Try.prog 27 #[.pointer (some ⟨g, 0, none⟩), .int .i64 m] w fun e w' => e = .returned (.int .i64 1) ∧ w = w' := by
  have HG := Lib.hid (show Calls Try.prog 54 #[.int .i64 m] w fun e w' => e = .returned (.bool false) ∧ w = w' by rw [← hm]; exact rgood_any m w)
  clear hm
  go_enter Try.func27, Try.ntmps27
  go_wp2_with (go_at_call 54; refine HG.out.mono ?_; rintro e w' ⟨rfl, rfl⟩)
  go_ret
  exact ⟨rfl, rfl⟩
theorem rset_ok (h : RgAt w g r) (m : Int) (hm : goodMd m = true) : Calls Try.prog 27 #[.pointer (some ⟨g, 0, none⟩), .int .i64 m] w fun e w' => e = .returned (.int .i64 0) ∧ RgAt w' g ⟨m, r.state, r.born, r.left⟩ ∧ Touch (fun k => k = g) w w' := by
  have HG := Lib.hid (show Calls Try.prog 54 #[.int .i64 m] w fun e w' => e = .returned (.bool true) ∧ w = w' by rw [← hm]; exact rgood_any m w)
  have c0 := h.c0
  have f0 := h.frozen 0
  have HE := Lib.hid (And.intro (show RgAt (w.setCell ⟨g, 0, none⟩ (.int .i64 m)) g ⟨m, r.state, r.born, r.left⟩ from h.set_ 0 _) (show Touch (fun k => k = g) w (w.setCell ⟨g, 0, none⟩ (.int .i64 m)) from (Touch.refl (fun k => k = g) w).set_ (a := ⟨g, 0, none⟩) (fun _ => rfl) _))
  clear hm h
  go_enter Try.func27, Try.ntmps27
  go_wp2_with (go_at_call 54; refine HG.out.mono ?_; rintro e w' ⟨rfl, rfl⟩)
  go_ret
  exact ⟨rfl, HE.out⟩
theorem rnew_ok (m : Int) (hm : goodMd m = true) (w : World) : Calls Try.prog 51 #[.int .i64 m] w fun e w' => ∃ g, e = .returned (.tuple #[.pointer (some ⟨g, 0, none⟩), .int .i64 0]) ∧ RgAt w' g ⟨m, 0, 0, 0⟩ ∧ Below w.heap.size w w' ∧ w.heap.size ≤ g := by
  have HG := Lib.hid (show Calls Try.prog 54 #[.int .i64 m] w fun e w' => e = .returned (.bool true) ∧ w = w' by rw [← hm]; exact rgood_any m w)
  clear hm
  go_enter Try.func51, Try.ntmps51
  go_wp2_with (go_at_call 54; refine HG.out.mono ?_; rintro e w' ⟨rfl, rfl⟩)
  exact bodyPost_ret (results_tmp2 rfl _ _ _) rfl ⟨_, rfl, Blk.new _ _ _, bel_alloc _ _, Nat.le_refl _⟩
theorem rnew_bad (m : Int) (hm : goodMd m = false) (w : World) : Calls Try.prog 51 #[.int .i64 m] w fun e w' => e = .returned (.tuple #[.pointer none, .int .i64 1]) ∧ w = w' := by
  have HG := Lib.hid (show Calls Try.prog 54 #[.int .i64 m] w fun e w' => e = .returned (.bool false) ∧ w = w' by rw [← hm]; exact rgood_any m w)
  clear hm
  go_enter Try.func51, Try.ntmps51
  go_wp2_with (go_at_call 54; refine HG.out.mono ?_; rintro e w' ⟨rfl, rfl⟩)
  exact bodyPost_ret (results_tmp2 rfl _ _ _) rfl ⟨rfl, rfl⟩
end
end Go.Proofs.Ythghedlgeceepaa
