/- The document's wheel: Set and Due. Its condition: fewer than 2^20 keys. -/
import Derived.Test.YtogghcbijdljkaaWref
namespace Go.Proofs.Ytogghcbijdljkaa
open Go.RowKit
set_option maxRecDepth 100000

theorem rdue_at (m : List Tm) (key : Int) (j : Nat) (hj : j < m.length) (h1 : ∀ i, i < j → (m.getD i tm0).key ≠ key) (h2 : (m.getD j tm0).key = key) : dueT m key = (m.getD j tm0).due := by
  induction m generalizing j with
  | nil => simp at hj
  | cons a m ih =>
    cases j with
    | zero => unfold dueT; rw [if_pos (by simpa using h2)]; simp
    | succ j =>
      unfold dueT
      rw [if_neg (by simpa using h1 0 (by omega)), ih j (by simpa using hj) (fun i hi => by have := h1 (i + 1) (by omega); rwa [getD_cons] at this) (by rwa [getD_cons] at h2), getD_cons]
theorem rdue_none (m : List Tm) (key : Int) (h1 : ∀ i, i < m.length → (m.getD i tm0).key ≠ key) : dueT m key = -1 := by
  induction m with
  | nil => rfl
  | cons a m ih =>
    unfold dueT
    rw [if_neg (by simpa using h1 0 (by simp)), ih (fun i hi => by have := h1 (i + 1) (by simp; omega); rwa [getD_cons] at this)]
set_option maxHeartbeats 4000000 in
theorem rdue_any (g : Nat) (m : List Tm) (lo : Nat) (key : Int) (w : World) (h : RefAt w g m lo) (hfew : m.length ≤ 1047000) :
    Calls Try.prog 18 #[.pointer (some ⟨g, 0, none⟩), .int .i64 key] w fun e w' => e = .returned (.int .i64 (dueT m key)) ∧ w = w' := by
  obtain ⟨_, A, c, A', c', hb, _, hkc, hdc⟩ := h.open_
  have hd1 := rdue_at m key
  have hd2 := rdue_none m key
  obtain ⟨n, hnn⟩ : ∃ n, m.length = n := ⟨_, rfl⟩
  obtain ⟨dv, hdv⟩ : ∃ dv, dueT m key = dv := ⟨_, rfl⟩
  rw [hnn] at hb hkc hdc hd1 hd2
  rw [hdv] at hd1 hd2 ⊢
  have c0 : w.cell? ⟨g, 0, none⟩ = some (.slice A n c) := hb.cell 0
  have c1 : w.cell? ⟨g, 1, none⟩ = some (.slice A' n c') := hb.cell 1
  have HN := Lib.hid (And.intro hnn hfew)
  have HO := Lib.hid (And.intro hkc hdc)
  have HD := Lib.hid (And.intro hd1 hd2)
  clear h hb hkc hdc hnn hfew hd1 hd2 hdv
  go_enter Try.func18, Try.ntmps18
  go_wp2_with fail
  go_loop [12] (fun iv => ∃ j : Nat, j ≤ n ∧ iv = .int .i64 j ∧ Hid (∀ i, i < j → (m.getD i tm0).key ≠ key)) (fun iv => n - (intOf iv).toNat)
  case atStart => exact ⟨0, Nat.zero_le _, rfl, Lib.hid fun i hi => absurd hi (Nat.not_lt_zero _)⟩
  case round =>
    obtain ⟨j, hj, rfl, hS⟩ := hrel
    by_cases hlt : j < n
    · obtain ⟨bk, rfl, hbk, pk⟩ := HO.out.1 j hlt
      obtain ⟨bd, rfl, hbd, pd⟩ := HO.out.2 j hlt
      obtain ⟨x, hx⟩ : ∃ x, m.getD j tm0 = x := ⟨_, rfl⟩
      rw [hx] at pk pd
      have HX := Lib.hid hx
      have j1 : (j : Int) < n := by omega
      have j0 : (0 : Int) ≤ j := by omega
      have HJ := Lib.hid (show wrap64 ((j : Int) + 1) = (j : Int) + 1 from IntWalk.wrap64_in _ (by have := HN.out; omega))
      by_cases hxk : x.key = key
      · have d1 : (x.key == key) = true := by simpa using hxk
        have HE := Lib.hid (HD.out.1 j hlt hS.out (by rw [HX.out]; exact hxk))
        clear hx hbk hbd hxk hj
        go_wp2_with fail
        go_ret
        exact ⟨by rw [HE.out, HX.out]; rfl, rfl⟩
      · have d1 : (x.key == key) = false := by simpa using hxk
        have HS2 := Lib.hid (show ∀ i, i < j + 1 → (m.getD i tm0).key ≠ key from fun i hi => by
          by_cases e : i = j
          · rw [e, HX.out]; exact hxk
          · exact hS.out i (by omega))
        clear hx hbk hbd hxk hj
        go_wp2_with fail
        go_round
        case rel =>
          rw [HJ.out]
          exact ⟨j + 1, hlt, by rw [Int.natCast_add]; rfl, HS2⟩
        case measure =>
          rw [HJ.out]
          show n - ((j : Int) + 1).toNat < n - ((j : Int)).toNat
          omega
    · obtain rfl : n = j := by omega
      have HE := Lib.hid (HD.out.2 hS.out)
      go_wp2_with fail
      go_ret
      exact ⟨by rw [HE.out]; rfl, rfl⟩
theorem Touch.then_below {p : Nat → Prop} {w w1 w2 : World} (h : Touch p w w1) (hb : Below w.heap.size w1 w2) : Touch p w w2 :=
  ⟨hb.os.trans h.os, hb.tape.trans h.tape, hb.output.trans h.output, Nat.le_trans h.size hb.size, fun k hk hp => (hb.block k hk).trans (h.block k hk hp)⟩
theorem rset_neg (g : Nat) (key due : Int) (w : World) (hd : due < 0) :
    Calls Try.prog 16 #[.pointer (some ⟨g, 0, none⟩), .int .i64 key, .int .i64 due] w fun e w' => e = .returned (.int .i64 1) ∧ w = w' := by
  have d1 : decide (due < 0) = true := decide_eq_true hd
  go_enter Try.func16, Try.ntmps16
  go_wp2_with fail
  go_ret
  exact ⟨rfl, rfl⟩
set_option maxHeartbeats 4000000 in
theorem rset_any (g : Nat) (m : List Tm) (lo : Nat) (key due : Int) (w : World) (h : RefAt w g m lo) (hfew : m.length ≤ 1047000) (hd : 0 ≤ due) :
    Calls Try.prog 16 #[.pointer (some ⟨g, 0, none⟩), .int .i64 key, .int .i64 due] w fun e w' => e = .returned (.int .i64 0) ∧ RefAt w' g (stopT key m ++ [⟨due, key⟩]) w.heap.size ∧ Touch (fun k => k = g) w w' := by
  have HS := Lib.hid (rstop_any g m lo key w h hfew)
  have HG := Lib.hid h.open_.1
  have d1 : decide (due < 0) = false := decide_eq_false (by omega)
  have HF := Lib.hid hfew
  clear h hfew hd
  go_enter Try.func16, Try.ntmps16
  go_wp2_with fail
  refine HS.out.mono ?_
  rintro e w1 ⟨rfl, h1, ht1⟩
  have hlen : (stopT key m).length ≤ 1047000 := Nat.le_trans (stop_len _ _) HF.out
  obtain ⟨M, hM⟩ : ∃ M, stopT key m = M := ⟨_, rfl⟩
  rw [hM] at h1 hlen
  obtain ⟨A, c, A', c', hb, hp⟩ := h1
  obtain ⟨L, hL⟩ : ∃ L, M.length = L := ⟨_, rfl⟩
  rw [hL] at hb hlen
  have c0 : w1.cell? ⟨g, 0, none⟩ = some (.slice A L c) := hb.cell 0
  obtain ⟨a1, d1', w2, hr1, hp1, hb1, hs1, hq1⟩ := hp.push (n := L) (by rw [keys_len]; exact hL) (by omega) ht1.size key
  have hg2 := hq1 g _ _ hb (by decide)
  have c2 : w2.cell? ⟨g, 0, none⟩ = some (.slice A L c) := hg2.cell 0
  have f2 := hg2.frozen 0
  -- the keys are stored
  have hnk : ∀ (W : World) (B : Nat) A1 cc ks A2 cd ds, Pair W B A1 cc ks A2 cd ds → g < B → ∀ (o : Nat) u, Pair (W.setCell ⟨g, o, none⟩ u) B A1 cc ks A2 cd ds := fun W B A1 cc ks A2 cd ds hP hlt o u =>
    hP.heap (fun q hq => Below.heap_setCell W ⟨g, o, none⟩ u q (fun e => by have := (hP.k.lt hq).1; have e : q = g := e; omega)) (fun q hq => Below.heap_setCell W ⟨g, o, none⟩ u q (fun e => by have := (hP.d.lt hq).1; have e : q = g := e; omega))
  have hp3 := hnk w2 w.heap.size _ _ _ _ _ _ hp1 HG.out 0 (.slice a1 (L + 1) d1')
  have hg3 : Blk (w2.setCell ⟨g, 0, none⟩ (.slice a1 (L + 1) d1')) g 29 #[.slice a1 (L + 1) d1', .slice A' L c'] := hg2.set_ 0 _
  have ht3 : Touch (fun k => k = g) w (w2.setCell ⟨g, 0, none⟩ (.slice a1 (L + 1) d1')) := (ht1.then_below hb1).set_ (a := ⟨g, 0, none⟩) (fun _ => rfl) _
  obtain ⟨W3, hW3⟩ : ∃ W3, w2.setCell ⟨g, 0, none⟩ (.slice a1 (L + 1) d1') = W3 := ⟨_, rfl⟩
  rw [hW3] at hp3 hg3 ht3
  have c3 : W3.cell? ⟨g, 1, none⟩ = some (.slice A' L c') := hg3.cell 1
  obtain ⟨a2, d2', w4, hr2, hp4, hb4, hs4, hq4⟩ := hp3.swap.push (n := L) (by rw [dues_len]; exact hL) (by omega) ht3.size due
  have hg4 := hq4 g _ _ hg3 (by decide)
  have c4 : w4.cell? ⟨g, 1, none⟩ = some (.slice A' L c') := hg4.cell 1
  have f4 := hg4.frozen 1
  have hp5 := hnk w4 w.heap.size _ _ _ _ _ _ hp4 HG.out 1 (.slice a2 (L + 1) d2')
  have hg5 : Blk (w4.setCell ⟨g, 1, none⟩ (.slice a2 (L + 1) d2')) g 29 #[.slice a1 (L + 1) d1', .slice a2 (L + 1) d2'] := hg4.set_ 1 _
  have ht5 : Touch (fun k => k = g) w (w4.setCell ⟨g, 1, none⟩ (.slice a2 (L + 1) d2')) := (ht3.then_below hb4).set_ (a := ⟨g, 1, none⟩) (fun _ => rfl) _
  have hfin : RefAt (w4.setCell ⟨g, 1, none⟩ (.slice a2 (L + 1) d2')) g (M ++ [⟨due, key⟩]) w.heap.size ∧ Touch (fun k => k = g) w (w4.setCell ⟨g, 1, none⟩ (.slice a2 (L + 1) d2')) := by
    refine ⟨⟨a1, d1', a2, d2', by rw [List.length_append, hL]; exact hg5, ?_⟩, ht5⟩
    have e1 : keysL (M ++ [⟨due, key⟩]) = keysL M ++ [key] := by unfold keysL; rw [List.map_append]; rfl
    have e2 : duesL (M ++ [⟨due, key⟩]) = duesL M ++ [due] := by unfold duesL; rw [List.map_append]; rfl
    rw [e1, e2]
    exact hp5.swap
  have HR1 := Lib.hid hr1
  have HR2 := Lib.hid hr2
  have HFI := Lib.hid hfin
  have HM := Lib.hid hM
  clear ht1 hM hlen hb hp hL hr1 hp1 hb1 hs1 hq1 hg2 hnk hp3 hg3 ht3 hr2 hp4 hb4 hs4 hq4 hg4 hp5 hg5 ht5 hfin
  go_wp2_with (at_builtin; first | refine Lib.wpList_append_run _ rfl _ _ _ _ rfl _ _ rfl rfl _ _ HR1.out ?_ | refine Lib.wpList_append_run _ rfl _ _ _ _ rfl _ _ rfl rfl _ _ HR2.out ?_)
  go_ret
  exact ⟨rfl, by rw [HM.out]; exact HFI.out⟩
end Go.Proofs.Ytogghcbijdljkaa
