/- The document's Same: are two messages the same. Its condition: at most 2^20 types and words. -/
import Derived.Test.YtoigapanhbmjlaaMrAsk
import Derived.Test.YtoigapanhbmjlaaPkCalls
import Derived.BigQuiet
namespace Go.Proofs.Ytoigapanhbmjlaa
open Go.RowKit

def sameM (l m : List Int) (x y : List Wd) : Bool := decide (x.length = y.length) && (sameB l.length m.length (fun k => l.getD k 0) (fun k => m.getD k 0) && decide (∀ k, k < x.length → (x.getD k wd0).t = (y.getD k wd0).t ∧ (x.getD k wd0).v = (y.getD k wd0).v ∧ (x.getD k wd0).e = (y.getD k wd0).e ∧ (x.getD k wd0).b = (y.getD k wd0).b))
theorem sameM_len {l m : List Int} {x y : List Wd} (h : ¬ x.length = y.length) : sameM l m x y = false := by simp [sameM, h]
theorem sameM_ints {l m : List Int} {x y : List Wd} (h : sameB l.length m.length (fun k => l.getD k 0) (fun k => m.getD k 0) = false) : sameM l m x y = false := by simp only [sameM, h, Bool.false_and, Bool.and_false]
theorem sameM_off {l m : List Int} {x y : List Wd} {k : Nat} (hk : k < x.length) (h : ¬ ((x.getD k wd0).t = (y.getD k wd0).t ∧ (x.getD k wd0).v = (y.getD k wd0).v ∧ (x.getD k wd0).e = (y.getD k wd0).e ∧ (x.getD k wd0).b = (y.getD k wd0).b)) : sameM l m x y = false := by
  unfold sameM
  have e : ∀ b : Bool, (b = true → False) → b = false := fun b hb => by cases b; rfl; exact absurd rfl hb
  refine e _ fun hh => h ?_
  rw [Bool.and_eq_true, Bool.and_eq_true] at hh
  exact of_decide_eq_true hh.2.2 k hk
theorem sameM_yes {l m : List Int} {x y : List Wd} (h1 : x.length = y.length) (h2 : sameB l.length m.length (fun k => l.getD k 0) (fun k => m.getD k 0) = true) (h : ∀ k, k < x.length → (x.getD k wd0).t = (y.getD k wd0).t ∧ (x.getD k wd0).v = (y.getD k wd0).v ∧ (x.getD k wd0).e = (y.getD k wd0).e ∧ (x.getD k wd0).b = (y.getD k wd0).b) : sameM l m x y = true := by
  unfold sameM
  rw [decide_eq_true h1, h2, decide_eq_true h]
  rfl

set_option maxHeartbeats 2000000 in
theorem sameM_any (A C X Y : Option Addr) (c d c' d' : Nat) (l m : List Int) (x y : List Wd) (B : Nat) (w : World) (hl : l.length ≤ 1048576) (hx : x.length ≤ 1048576) (hA : IntsAt w B A l) (hC : IntsAt w B C m) (hX : WordsAt w B X x) (hY : WordsAt w B Y y) :
    Calls Try.prog 16 #[.slice A l.length c, .slice X x.length c', .slice C m.length d, .slice Y y.length d'] w fun e w' => e = .returned (.bool (sameM l m x y)) ∧ ∃ q, w' = w.drewN q := by
  have HS := Lib.hid (same_any A C l.length m.length c d (fun k => l.getD k 0) (fun k => m.getD k 0) B w hl hA.nums hC.nums)
  clear hA hC
  by_cases h : x.length = y.length
  · cases hs : sameB l.length m.length (fun k => l.getD k 0) (fun k => m.getD k 0)
    · have HO := Lib.hid (sameM_ints (x := x) (y := y) hs)
      have HB := Lib.hid hs
      rw [← h]
      generalize x.length = n at *
      clear hs h hX hY
      go_enter Try.func16, Try.ntmps16
      go_wp2_with (go_at_call 37; refine HS.out.mono ?_; rw [HB.out]; rintro e w' ⟨rfl, q, rfl⟩)
      go_ret
      exact ⟨ret_bool HO.out.symm, q, rfl⟩
    · have HB := Lib.hid hs
      have HY := Lib.hid (fun hh => sameM_yes h hs hh)
      generalize hn : x.length = n at *
      have HN := Lib.hid hn
      have HL := Lib.hid h
      rw [← h]
      clear hs h hn
      go_enter Try.func16, Try.ntmps16
      go_wp2_with (go_at_call 37; refine HS.out.mono ?_; rw [HB.out]; rintro e w' ⟨rfl, q, rfl⟩)
      go_loopw [23] (fun i wr => ∃ k : Nat, k ≤ n ∧ i = .int .i64 k ∧ (∀ r, r < k → (x.getD r wd0).t = (y.getD r wd0).t ∧ (x.getD r wd0).v = (y.getD r wd0).v ∧ (x.getD r wd0).e = (y.getD r wd0).e ∧ (x.getD r wd0).b = (y.getD r wd0).b) ∧ Hid (∃ q, wr = w.drewN q)) (fun i _ => n - (intOf i).toNat)
      case atStart => exact ⟨0, Nat.zero_le _, rfl, fun r hr => absurd hr (Nat.not_lt_zero _), Lib.hid ⟨q, rfl⟩⟩
      case round =>
        obtain ⟨k, hk, rfl, hf, hW⟩ := hrel
        by_cases hlt : k < n
        · obtain ⟨b, off, rfl, hbl, p0, p1, p2, p3⟩ := hX k (by rw [HN.out]; exact hlt)
          obtain ⟨b', off', rfl, hbl', q0, q1, q2, q3⟩ := hY k (by rw [← HL.out]; exact hlt)
          have hin : ∀ (a : Addr) (v : Value), w.cell? a = some v → wr.cell? a = some v := fun a v h => by obtain ⟨q, e⟩ := hW.out; rw [e]; exact h
          have c0 := hin _ _ p0
          have c1 := hin _ _ p1
          have c2 := hin _ _ p2
          have c3 := hin _ _ p3
          have e0 := hin _ _ q0
          have e1 := hin _ _ q1
          have e2 := hin _ _ q2
          have e3 := hin _ _ q3
          have HF := Lib.hid hf
          have HOFF := Lib.hid (fun hh => sameM_off (l := l) (m := m) (x := x) (y := y) (k := k) (by rw [HN.out]; exact hlt) hh)
          clear p0 p1 p2 p3 q0 q1 q2 q3 hin hf hX hY
          generalize hxx : x.getD k wd0 = xx at *
          generalize hyy : y.getD k wd0 = yy at *
          have HX2 := Lib.hid hxx
          have HY2 := Lib.hid hyy
          clear hxx hyy
          obtain ⟨t, v, a, g⟩ := xx
          obtain ⟨t', v', a', g'⟩ := yy
          simp only at c0 c1 c2 c3 e0 e1 e2 e3
          by_cases h0 : t = t'
          · subst h0
            by_cases h1 : v = v'
            · subst h1
              by_cases h2 : a = a'
              · subst h2
                by_cases h3 : g = g'
                · subst h3
                  go_wp2_with fail
                  go_quiet (fail)
                  go_wp2_with fail
                  go_roundw
                  case rel => exact ⟨k + 1, by omega, by go_num, fun r hr => by
                    by_cases e : r = k
                    · subst e; rw [HX2.out, HY2.out]; exact ⟨rfl, rfl, rfl, rfl⟩
                    · exact HF.out r (by omega), Lib.hid (drewN_more hW.out nq)⟩
                  case measure => simp [intOf]; omega
                · have HO := Lib.hid (HOFF.out (by simp [h3]))
                  have d : (g == g') = false := by simpa using h3
                  clear h3
                  go_wp2_with fail
                  go_quiet (fail)
                  go_wp2_with fail
                  go_ret
                  exact ⟨ret_bool HO.out.symm, drewN_more hW.out nq⟩
              · have HO := Lib.hid (HOFF.out (by simp [h2]))
                have d : (a == a') = false := by simpa using h2
                clear h2
                go_wp2_with fail
                go_quiet (fail)
                go_wp2_with fail
                go_ret
                exact ⟨ret_bool HO.out.symm, drewN_more hW.out nq⟩
            · have HO := Lib.hid (HOFF.out (by simp [h1]))
              have d : (v == v') = false := by simpa using h1
              clear h1
              go_wp2_with fail
              go_quiet (fail)
              go_wp2_with fail
              go_ret
              exact ⟨ret_bool HO.out.symm, drewN_more hW.out nq⟩
          · have HO := Lib.hid (HOFF.out (by simp [h0]))
            have d : (t == t') = false := by simpa using h0
            clear h0
            go_wp2_with fail
            go_quiet (fail)
            go_wp2_with fail
            go_ret
            exact ⟨ret_bool HO.out.symm, drewN_more hW.out nq⟩
        · obtain rfl : k = n := by omega
          have HO := Lib.hid (HY.out hf)
          clear hf
          go_wp2_with fail
          go_ret
          exact ⟨ret_bool HO.out.symm, hW.out⟩
  · have HO := Lib.hid (sameM_len (l := l) (m := m) h)
    have d2 : ((x.length : Int) != (y.length : Int)) = true := by simp; omega
    generalize x.length = n at *
    generalize y.length = n2 at *
    clear h hX hY
    go_enter Try.func16, Try.ntmps16
    go_wp2_with fail
    go_ret
    exact ⟨ret_bool HO.out.symm, 0, rfl⟩
end Go.Proofs.Ytoigapanhbmjlaa
