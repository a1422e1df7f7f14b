/- The document's role and state of a port, by all that was set. Their conditions: fewer than a million turns, ticks up to 2^40. -/
import Derived.Test.YtonkmbnnbpbhiaaRtmem
namespace Go.Proofs.Ytonkmbnnbpbhiaa
open Go.RowKit
set_option maxRecDepth 100000

/-- Turns as they lie. -/
def TnAt (w : World) (A : Option Addr) (l : List (Int × Int)) : Prop := ∀ k, k < l.length → ∃ b off, A = some ⟨b, off, none⟩ ∧ b < w.heap.size ∧ w.cell? ⟨b, off + k * 2, none⟩ = some (.int .i64 (l.getD k (0, 0)).1) ∧ w.cell? ⟨b, off + k * 2 + 1, none⟩ = some (.int .i64 (l.getD k (0, 0)).2)
theorem OwnT.at_ {w : World} {base c : Nat} {A : Option Addr} {l : List (Int × Int)} (h : OwnT w base A c l) : TnAt w A l := fun k hk => by
  obtain ⟨b, rfl, hl, hc⟩ := own_at h (by omega)
  have e := tnL_at l k hk
  exact ⟨b, 0, rfl, hl, by rw [Nat.zero_add]; exact hc _ _ e.1, by rw [Nat.zero_add]; exact hc _ _ e.2⟩
theorem TnAt.below {w w' : World} {A : Option Addr} {l : List (Int × Int)} (h : TnAt w A l) (hb : Below w.heap.size w w') : TnAt w' A l := fun k hk => by
  obtain ⟨b, off, e, hl, h1, h2⟩ := h k hk
  exact ⟨b, off, e, Nat.lt_of_lt_of_le hl hb.size, (hb.cell (p := ⟨b, off + k * 2, none⟩) hl).trans h1, (hb.cell (p := ⟨b, off + k * 2 + 1, none⟩) hl).trans h2⟩
theorem lastT_take (l : List (Int × Int)) (j : Nat) (hj : j < l.length) : lastT (l.take (j + 1)) = lastS (lastT (l.take j)) (l.getD j (0, 0)) := by
  unfold lastT
  rw [List.take_succ_eq_append_getElem hj, List.foldl_append, List.getD_eq_getElem?_getD, List.getElem?_eq_getElem hj]
  rfl
set_option maxHeartbeats 4000000 in
theorem rlast_any (A : Option Addr) (c : Nat) (l : List (Int × Int)) (w : World) (h : TnAt w A l) (hl : l.length ≤ 1000000) :
    Calls Try.prog 66 #[.slice A l.length c] w fun e w' => e = .returned (.tuple #[.int .i64 (lastT l).1, .int .i64 (lastT l).2]) ∧ Below w.heap.size w w' := by
  obtain ⟨n, hn⟩ : ∃ n, l.length = n := ⟨_, rfl⟩
  have HA := Lib.hid h
  have HN := Lib.hid (And.intro hn hl)
  have HE := Lib.hid (show lastT (l.take n) = lastT l by rw [← hn, List.take_length])
  rw [hn]
  have n0 : (0 : Int) ≤ n := by omega
  clear h hn hl
  go_enter Try.func66, Try.ntmps66
  go_wp2_with fail
  go_loopw [4, 5, 11] (fun rv sv iv wr => ∃ j : Nat, j ≤ n ∧ iv = .int .i64 j ∧ rv = .int .i64 (lastT (l.take j)).1 ∧ sv = .int .i64 (lastT (l.take j)).2 ∧ Hid (Below w.heap.size w wr)) (fun _ _ iv _ => n - (intOf iv).toNat)
  case atStart => exact ⟨0, Nat.zero_le _, rfl, rfl, rfl, Lib.hid (Below.refl _ _)⟩
  case round =>
    obtain ⟨j, hj, rfl, rfl, rfl, hS⟩ := hrel
    by_cases hlt : j < n
    · have j1 : (j : Int) < n := by omega
      have j0 : (0 : Int) ≤ j := by omega
      have HJ := Lib.hid (show wrap64 ((j : Int) + 1) = (j : Int) + 1 from IntWalk.wrap64_in _ (by have := HN.out; omega))
      obtain ⟨b, off, rfl, hbl, k0, k1⟩ := (HA.out.below hS.out) j (by rw [HN.out.1]; exact hlt)
      have hst := lastT_take l j (by rw [HN.out.1]; exact hlt)
      obtain ⟨x, hx⟩ : ∃ x, l.getD j (0, 0) = x := ⟨_, rfl⟩
      rw [hx] at k0 k1 hst
      obtain ⟨s, hs⟩ : ∃ s, lastT (l.take j) = s := ⟨_, rfl⟩
      rw [hs] at hst ⊢
      obtain ⟨r, ta⟩ := x
      obtain ⟨s1, s2⟩ := s
      have HST := Lib.hid hst
      have HB := Lib.hid (hS.out.trans ((bel_alloc wr (.cells #[.int .i64 r, .int .i64 ta] 117)).mono hS.out.size))
      clear hst hs hx hbl hj hS
      simp only at k0 k1
      have hcase : (∃ rr : Int, (if r < 0 ∨ 3 < r then 0 else r) = rr ∧ (decide (r < 0) = true ∧ rr = 0 ∨ decide (r < 0) = false ∧ decide (3 < r) = true ∧ rr = 0 ∨ decide (r < 0) = false ∧ decide (3 < r) = false ∧ rr = r)) := ⟨_, rfl, by
        by_cases h0 : r < 0
        · exact .inl ⟨decide_eq_true h0, if_pos (.inl h0)⟩
        · by_cases h3 : 3 < r
          · exact .inr (.inl ⟨decide_eq_false h0, decide_eq_true h3, if_pos (.inr h3)⟩)
          · exact .inr (.inr ⟨decide_eq_false h0, decide_eq_false h3, if_neg (by omega)⟩)⟩
      obtain ⟨rr, hrr, hc⟩ := hcase
      have hls : lastS (s1, s2) (r, ta) = if rr = s1 then (s1, s2) else (rr, ta) := by unfold lastS; simp only; rw [hrr]
      rw [hls] at HST
      clear hls hrr
      by_cases hs : rr = s1
      · rw [if_pos hs] at HST
        have e5 : (rr != s1) = false := by simpa using hs
        have HSE := Lib.hid hs
        clear hs
        rcases hc with ⟨e1, e2⟩ | ⟨e1, e3, e2⟩ | ⟨e1, e3, e2⟩
        all_goals
          subst e2
          go_wp2_with fail
          go_roundw
          case rel =>
            rw [HJ.out]
            exact ⟨j + 1, hlt, by rw [Int.natCast_add]; rfl, by rw [HST.out], by rw [HST.out], HB⟩
          case measure =>
            rw [HJ.out]
            show n - ((j : Int) + 1).toNat < n - ((j : Int)).toNat
            omega
      · rw [if_neg hs] at HST
        have e5 : (rr != s1) = true := by simpa using hs
        clear hs
        rcases hc with ⟨e1, e2⟩ | ⟨e1, e3, e2⟩ | ⟨e1, e3, e2⟩
        all_goals
          subst e2
          go_wp2_with fail
          go_roundw
          case rel =>
            rw [HJ.out]
            exact ⟨j + 1, hlt, by rw [Int.natCast_add]; rfl, by rw [HST.out], by rw [HST.out], HB⟩
          case measure =>
            rw [HJ.out]
            show n - ((j : Int) + 1).toNat < n - ((j : Int)).toNat
            omega
    · obtain rfl : n = j := by omega
      rw [HE.out]
      go_wp2_with fail
      exact bodyPost_ret (results_tmp2 rfl _ _ _) rfl ⟨rfl, hS.out⟩
set_option maxHeartbeats 2000000 in
/-- The role. -/
theorem rrole11_any (A : Option Addr) (c : Nat) (l : List (Int × Int)) (w : World) (h : TnAt w A l) (hl : l.length ≤ 1000000) :
    Calls Try.prog 49 #[.slice A l.length c] w fun e w' => e = .returned (.int .i64 (lastT l).1) ∧ Below w.heap.size w w' := by
  have HL := Lib.hid (rlast_any A c l w h hl)
  clear h hl
  go_enter Try.func49, Try.ntmps49
  go_wp2_with fail
  refine HL.out.mono ?_
  rintro e w1 ⟨rfl, b1⟩
  go_wp2_with fail
  go_ret
  exact ⟨rfl, b1⟩
set_option maxHeartbeats 2000000 in
/-- The state. -/
theorem rstate11_any (A : Option Addr) (c : Nat) (l : List (Int × Int)) (w : World) (h : TnAt w A l) (hl : l.length ≤ 1000000) (now : Int) (h0 : 0 ≤ (lastT l).2) (h1 : (lastT l).2 ≤ now) (h2 : now ≤ 1099511627776) :
    Calls Try.prog 47 #[.slice A l.length c, .int .i64 now] w fun e w' => e = .returned (.int .i64 (stateI (lastT l).1 (lastT l).2 now)) ∧ Below w.heap.size w w' := by
  have HL := Lib.hid (rlast_any A c l w h hl)
  obtain ⟨s, hs⟩ : ∃ s, lastT l = s := ⟨_, rfl⟩
  rw [hs] at HL h0 h1 ⊢
  obtain ⟨r, si⟩ := s
  simp only at HL h0 h1 ⊢
  have hw : wrap64 (now - si) = now - si := IntWalk.wrap64_in _ (by omega)
  have HX := Lib.hid (And.intro h0 (And.intro h1 h2))
  have hqv : (now - si).tdiv 4 = (now - si) / 4 := Int.tdiv_eq_ediv_of_nonneg (by omega)
  obtain ⟨q, hq, hq0, hqs⟩ : ∃ q, wrap64 ((now - si).tdiv 4) = q ∧ 0 ≤ q ∧ (r = 1 ∨ r = 2 → stateI r si now = if q < 2 then q else 2) := by
    refine ⟨(now - si) / 4, by rw [hqv]; exact IntWalk.wrap64_in _ (by omega), by omega, fun hr => ?_⟩
    unfold stateI
    rw [if_pos hr]
    by_cases h4 : now - si < 4
    · rw [if_pos h4, if_pos (by omega)]; omega
    · rw [if_neg h4]
      by_cases h8 : now - si < 8
      · rw [if_pos h8, if_pos (by omega)]; omega
      · rw [if_neg h8, if_neg (by omega)]
  clear h hl hs h0 h1 h2 hqv
  by_cases hr : r = 1 ∨ r = 2
  · rw [hqs hr]
    clear hqs
    have hq3 : q = 0 ∨ q = 1 ∨ 2 ≤ q := by omega
    clear hq0
    rcases hq3 with rfl | rfl | hq2
    · rw [if_pos (show (0 : Int) < 2 by decide)]
      rcases hr with rfl | rfl
      all_goals
        go_enter Try.func47, Try.ntmps47
        go_wp2_with fail
        refine HL.out.mono ?_
        rintro e w1 ⟨rfl, b1⟩
        go_wp2_with fail
        go_ret
        exact ⟨rfl, b1⟩
    · rw [if_pos (show (1 : Int) < 2 by decide)]
      rcases hr with rfl | rfl
      all_goals
        go_enter Try.func47, Try.ntmps47
        go_wp2_with fail
        refine HL.out.mono ?_
        rintro e w1 ⟨rfl, b1⟩
        go_wp2_with fail
        go_ret
        exact ⟨rfl, b1⟩
    · rw [if_neg (show ¬ q < 2 by omega)]
      have d3 : decide (q < 2) = false := decide_eq_false (by omega)
      have HQ := Lib.hid hq2
      clear hq2
      rcases hr with rfl | rfl
      all_goals
        go_enter Try.func47, Try.ntmps47
        go_wp2_with fail
        refine HL.out.mono ?_
        rintro e w1 ⟨rfl, b1⟩
        go_wp2_with fail
        all_goals first
          | (exfalso; have := HQ.out; omega)
          | (go_ret; exact ⟨rfl, b1⟩)
  · have d1 : (r != 1) = true := by simp; omega
    have d2 : (r != 2) = true := by simp; omega
    have hst : stateI r si now = 0 := by unfold stateI; rw [if_neg hr]
    rw [hst]
    clear hr hst hqs hq hq0
    go_enter Try.func47, Try.ntmps47
    go_wp2_with fail
    refine HL.out.mono ?_
    rintro e w1 ⟨rfl, b1⟩
    go_wp2_with fail
    go_ret
    exact ⟨rfl, b1⟩
end Go.Proofs.Ytonkmbnnbpbhiaa
