/- A port that comes to forward, as contracts: its role is known, set, asked; its state; whether it opens. Its condition: ticks far from an int's ends. -/
import Derived.Test.YtadejdhdkkfliaaOwn
import Derived.Test.YtadejdhdkkfliaaBel
namespace Go.Proofs.Ytadejdhdkkfliaa
open Go.RowKit
set_option maxRecDepth 100000

def stateI (r s now : Int) : Int := if r = 1 ∨ r = 2 then (if now - s < 4 then 0 else if now - s < 8 then 1 else 2) else 0
theorem known_any (r : Int) (h0 : 0 ≤ r) (h3 : r ≤ 3) (w : World) :
    Calls Try.prog 73 #[.int .i64 r] w fun e w' => e = .returned (.int .i64 r) ∧ w = w' := by
  go_enter Try.func73, Try.ntmps73
  go_wp2_with fail
  go_ret
  exact ⟨rfl, rfl⟩
theorem prole_any (b off : Nat) (r : Int) (w : World) (c0 : w.cell? ⟨b, off, none⟩ = some (.int .i64 r)) :
    Calls Try.prog 44 #[.pointer (some ⟨b, off, none⟩)] w fun e w' => e = .returned (.int .i64 r) ∧ w = w' := by
  go_enter Try.func44, Try.ntmps44
  go_wp2_with fail
  go_ret
  exact ⟨rfl, rfl⟩
theorem pset_same (b off : Nat) (r now : Int) (h0 : 0 ≤ r) (h3 : r ≤ 3) (w : World) (c0 : w.cell? ⟨b, off, none⟩ = some (.int .i64 r)) :
    Calls Try.prog 56 #[.pointer (some ⟨b, off, none⟩), .int .i64 r, .int .i64 now] w fun e w' => e = .returned (.bool false) ∧ w = w' := by
  have HK := Lib.hid (fun w => known_any r h0 h3 w)
  clear h0 h3
  go_enter Try.func56, Try.ntmps56
  go_wp2_with fail
  refine (HK.out _).mono ?_
  rintro e w' ⟨rfl, rfl⟩
  go_wp2_with fail
  go_ret
  exact ⟨rfl, rfl⟩
theorem pset_new (b off : Nat) (r0 s0 r now : Int) (h0 : 0 ≤ r) (h3 : r ≤ 3) (hne : r0 ≠ r) (w : World) (c0 : w.cell? ⟨b, off, none⟩ = some (.int .i64 r0)) (c1 : w.cell? ⟨b, off + 1, none⟩ = some (.int .i64 s0))
    (f0 : w.frozen? ⟨b, off, none⟩ = false) (f1 : w.frozen? ⟨b, off + 1, none⟩ = false) :
    Calls Try.prog 56 #[.pointer (some ⟨b, off, none⟩), .int .i64 r, .int .i64 now] w fun e w' => e = .returned (.bool true) ∧ w' = (w.setCell ⟨b, off, none⟩ (.int .i64 r)).setCell ⟨b, off + 1, none⟩ (.int .i64 now) := by
  have HK := Lib.hid (fun w => known_any r h0 h3 w)
  have d0 : (r0 == r) = false := by simpa using hne
  clear h0 h3 hne
  go_enter Try.func56, Try.ntmps56
  go_wp2_with fail
  refine (HK.out _).mono ?_
  rintro e w' ⟨rfl, rfl⟩
  go_wp2_with fail
  go_ret
  exact ⟨rfl, rfl⟩
theorem goesOn_any (b off : Nat) (r : Int) (w : World) (c0 : w.cell? ⟨b, off, none⟩ = some (.int .i64 r)) :
    Calls Try.prog 62 #[.pointer (some ⟨b, off, none⟩)] w fun e w' => e = .returned (.bool (decide (r = 1 ∨ r = 2))) ∧ w = w' := by
  have HR := Lib.hid (prole_any b off r w c0)
  by_cases h1 : r = 1
  · subst h1
    go_enter Try.func62, Try.ntmps62
    go_wp2_with (go_at_call 44; refine HR.out.mono ?_; rintro e w' ⟨rfl, rfl⟩)
    go_ret
    exact ⟨rfl, rfl⟩
  · have d1 : (r == 1) = false := by simpa using h1
    rw [show decide (r = 1 ∨ r = 2) = (r == 2) by by_cases h2 : r = 2 <;> simp [h1, h2]]
    clear h1
    go_enter Try.func62, Try.ntmps62
    go_wp2_with (go_at_call 44; refine HR.out.mono ?_; rintro e w' ⟨rfl, rfl⟩)
    go_ret
    exact ⟨rfl, rfl⟩
theorem held_any (b off : Nat) (s now : Int) (hw : wrap64 (now - s) = now - s) (w : World) (c1 : w.cell? ⟨b, off + 1, none⟩ = some (.int .i64 s)) :
    Calls Try.prog 63 #[.pointer (some ⟨b, off, none⟩), .int .i64 now] w fun e w' => e = .returned (.int .i64 (now - s)) ∧ w = w' := by
  have HW := Lib.hid hw
  clear hw
  go_enter Try.func63, Try.ntmps63
  go_wp2_with fail
  go_ret
  exact ⟨ret_i64 HW.out, rfl⟩
theorem state_any (b off : Nat) (r s now : Int) (hw : wrap64 (now - s) = now - s) (w : World) (c0 : w.cell? ⟨b, off, none⟩ = some (.int .i64 r)) (c1 : w.cell? ⟨b, off + 1, none⟩ = some (.int .i64 s)) :
    Calls Try.prog 45 #[.pointer (some ⟨b, off, none⟩), .int .i64 now] w fun e w' => e = .returned (.int .i64 (stateI r s now)) ∧ w = w' := by
  have HG := Lib.hid (goesOn_any b off r w c0)
  have HH := Lib.hid (held_any b off s now hw w c1)
  clear hw c0 c1
  obtain ⟨n, hn⟩ : ∃ n, now - s = n := ⟨_, rfl⟩
  unfold stateI
  rw [hn] at HH ⊢
  clear hn
  by_cases hr : r = 1 ∨ r = 2
  · rw [if_pos hr]
    rw [decide_eq_true hr] at HG
    by_cases h4 : n < 4
    · rw [if_pos h4]
      clear hr
      go_enter Try.func45, Try.ntmps45
      go_wp2_with (first | (go_at_call 62; refine HG.out.mono ?_; rintro e w' ⟨rfl, rfl⟩) | (go_at_call 63; refine HH.out.mono ?_; rintro e w' ⟨rfl, rfl⟩))
      go_ret
      exact ⟨rfl, rfl⟩
    · rw [if_neg h4]
      by_cases h8 : n < 8
      · rw [if_pos h8]
        clear hr
        have d4 : decide (n < 4) = false := decide_eq_false h4
        clear h4
        go_enter Try.func45, Try.ntmps45
        go_wp2_with (first | (go_at_call 62; refine HG.out.mono ?_; rintro e w' ⟨rfl, rfl⟩) | (go_at_call 63; refine HH.out.mono ?_; rintro e w' ⟨rfl, rfl⟩))
        go_ret
        exact ⟨rfl, rfl⟩
      · rw [if_neg h8]
        clear hr
        have d4 : decide (n < 4) = false := decide_eq_false h4
        have d8 : decide (n < 8) = false := decide_eq_false h8
        clear h4 h8
        go_enter Try.func45, Try.ntmps45
        go_wp2_with (first | (go_at_call 62; refine HG.out.mono ?_; rintro e w' ⟨rfl, rfl⟩) | (go_at_call 63; refine HH.out.mono ?_; rintro e w' ⟨rfl, rfl⟩))
        go_ret
        exact ⟨rfl, rfl⟩
  · rw [if_neg hr]
    rw [decide_eq_false hr] at HG
    clear hr
    go_enter Try.func45, Try.ntmps45
    go_wp2_with (first | (go_at_call 62; refine HG.out.mono ?_; rintro e w' ⟨rfl, rfl⟩) | (go_at_call 63; refine HH.out.mono ?_; rintro e w' ⟨rfl, rfl⟩))
    go_ret
    exact ⟨rfl, rfl⟩
theorem opens_same (b off : Nat) (r s now : Int) (fw : Bool) (hfw : (stateI r s now == 2) = fw) (hw : wrap64 (now - s) = now - s) (w : World) (c0 : w.cell? ⟨b, off, none⟩ = some (.int .i64 r)) (c1 : w.cell? ⟨b, off + 1, none⟩ = some (.int .i64 s)) (c2 : w.cell? ⟨b, off + 2, none⟩ = some (.bool fw)) :
    Calls Try.prog 58 #[.pointer (some ⟨b, off, none⟩), .int .i64 now] w fun e w' => e = .returned (.bool false) ∧ w = w' := by
  have HS := Lib.hid (state_any b off r s now hw w c0 c1)
  obtain ⟨st, hst⟩ : ∃ st, stateI r s now = st := ⟨_, rfl⟩
  rw [hst] at HS hfw
  clear hst hw c0 c1
  go_enter Try.func58, Try.ntmps58
  go_wp2_with fail
  refine HS.out.mono ?_
  rintro e w' ⟨rfl, rfl⟩
  go_wp2_with fail
  go_ret
  exact ⟨rfl, rfl⟩
theorem opens_new (b off : Nat) (r s now : Int) (fw fw' : Bool) (hfw : (stateI r s now == 2) = fw') (hne : fw ≠ fw') (hw : wrap64 (now - s) = now - s) (w : World) (c0 : w.cell? ⟨b, off, none⟩ = some (.int .i64 r)) (c1 : w.cell? ⟨b, off + 1, none⟩ = some (.int .i64 s)) (c2 : w.cell? ⟨b, off + 2, none⟩ = some (.bool fw))
    (f2 : w.frozen? ⟨b, off + 2, none⟩ = false) :
    Calls Try.prog 58 #[.pointer (some ⟨b, off, none⟩), .int .i64 now] w fun e w' => e = .returned (.bool true) ∧ w' = w.setCell ⟨b, off + 2, none⟩ (.bool fw') := by
  have HS := Lib.hid (state_any b off r s now hw w c0 c1)
  obtain ⟨st, hst⟩ : ∃ st, stateI r s now = st := ⟨_, rfl⟩
  rw [hst] at HS hfw
  clear hst hw c0 c1
  have d2 : (fw == fw') = false := by simpa using hne
  clear hne
  go_enter Try.func58, Try.ntmps58
  go_wp2_with fail
  refine HS.out.mono ?_
  rintro e w' ⟨rfl, rfl⟩
  go_wp2_with fail
  go_ret
  exact ⟨rfl, rfl⟩
end Go.Proofs.Ytadejdhdkkfliaa
