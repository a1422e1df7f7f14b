/- Contract of the document's Good: can a message be. Its condition: at most 2^20 types and words. -/
import Derived.Test.YtoigapanhbmjlaaMrGood
namespace Go.Proofs.Ytoigapanhbmjlaa
open Go.RowKit

/-- What the second loop of the document's Good knows at a round. -/
structure RAt (w wr Wn : World) (b o : Nat) (a q : Wd) : Prop where
  low : Below w.heap.size w Wn
  n0 : Wn.cell? ⟨wr.heap.size, 0, none⟩ = some (.int .i64 a.t)
  n1 : Wn.cell? ⟨wr.heap.size, 1, none⟩ = some (.int .i64 a.v)
  n2 : Wn.cell? ⟨wr.heap.size, 2, none⟩ = some (.int .i64 a.e)
  n3 : Wn.cell? ⟨wr.heap.size, 3, none⟩ = some (.int .i64 a.b)
  p0 : Wn.cell? ⟨b, o, none⟩ = some (.int .i64 q.t)
  p1 : Wn.cell? ⟨b, o + 1, none⟩ = some (.int .i64 q.v)
  s2 : wr.heap.size < Wn.heap.size
  s3 : b < Wn.heap.size
theorem RAt.on {w wr Wn w1 : World} {b o : Nat} {a q : Wd} (h : RAt w wr Wn b o a q) (b2 : Below Wn.heap.size Wn w1) : RAt w wr w1 b o a q := by
  have hs := b2.size
  have hl := h.low.size
  have hx := h.s2
  have h5 := h.s3
  exact ⟨h.low.trans (b2.mono (by omega)), (b2.cell (p := ⟨wr.heap.size, 0, none⟩) h.s2).trans h.n0, (b2.cell (p := ⟨wr.heap.size, 1, none⟩) h.s2).trans h.n1, (b2.cell (p := ⟨wr.heap.size, 2, none⟩) h.s2).trans h.n2, (b2.cell (p := ⟨wr.heap.size, 3, none⟩) h.s2).trans h.n3,
    (b2.cell (p := ⟨b, o, none⟩) h.s3).trans h.p0, (b2.cell (p := ⟨b, o + 1, none⟩) h.s3).trans h.p1, by omega, by omega⟩
theorem RAt.go {w wr Wn w1 : World} {b o : Nat} {a q : Wd} (h : RAt w wr Wn b o a q) (b1 : Below (World.drew Wn).heap.size (World.drew Wn) w1) : RAt w wr w1 b o a q :=
  h.on ((bel_drewN (Below.refl _ Wn) 1).trans b1)
theorem RAt.cells {w wr Wn : World} {b o : Nat} {t v e g : Int} {q : Wd} (h : RAt w wr Wn b o ⟨t, v, e, g⟩ q) :
    Wn.cell? ⟨wr.heap.size, 0, none⟩ = some (.int .i64 t) ∧ Wn.cell? ⟨wr.heap.size, 1, none⟩ = some (.int .i64 v) ∧ Wn.cell? ⟨wr.heap.size, 2, none⟩ = some (.int .i64 e) ∧ Wn.cell? ⟨wr.heap.size, 3, none⟩ = some (.int .i64 g) ∧
      Wn.cell? ⟨b, o, none⟩ = some (.int .i64 q.t) ∧ Wn.cell? ⟨b, o + 1, none⟩ = some (.int .i64 q.v) := ⟨h.n0, h.n1, h.n2, h.n3, h.p0, h.p1⟩
theorem word_cases (a : Wd) : (wordP a ∧ attrB a.t a.v = true ∧ 0 ≤ a.e ∧ a.e ≤ 5 ∧ 0 ≤ a.b ∧ a.b ≤ 1048576) ∨ (¬ wordP a ∧ (attrB a.t a.v = false ∨ (attrB a.t a.v = true ∧ a.e < 0) ∨ (attrB a.t a.v = true ∧ 0 ≤ a.e ∧ 5 < a.e) ∨ (attrB a.t a.v = true ∧ 0 ≤ a.e ∧ a.e ≤ 5 ∧ a.b < 0) ∨ (attrB a.t a.v = true ∧ 0 ≤ a.e ∧ a.e ≤ 5 ∧ 0 ≤ a.b ∧ 1048576 < a.b))) := by
  by_cases h : wordP a
  · exact .inl ⟨h, decide_eq_true h.1, h.2⟩
  · refine .inr ⟨h, ?_⟩
    cases ha : attrB a.t a.v
    · exact .inl rfl
    · have h1 : attrP a.t a.v := of_decide_eq_true ha
      unfold wordP at h
      simp only [Bool.true_eq_false, false_or, true_and]
      by_cases g1 : a.e < 0
      · exact .inl g1
      · by_cases g2 : 5 < a.e
        · exact .inr (.inl ⟨by omega, g2⟩)
        · by_cases g3 : a.b < 0
          · exact .inr (.inr (.inl ⟨by omega, by omega, g3⟩))
          · refine .inr (.inr (.inr ⟨by omega, by omega, by omega, ?_⟩))
            by_cases g4 : 1048576 < a.b
            · exact g4
            · exact absurd ⟨h1, by omega, by omega, by omega, by omega⟩ h

set_option maxHeartbeats 4000000 in
set_option maxRecDepth 100000 in
theorem goodr_all (A A' : Option Addr) (c c' : Nat) (l : List Int) (ws : List Wd) (B : Nat) (w : World) (hB : B ≤ w.heap.size) (hl : l.length ≤ 1048576) (hw : ws.length ≤ 1048576) (hA : IntsAt w B A l) (hA' : WordsAt w B A' ws) :
    Calls Try.prog 11 #[.slice A l.length c, .slice A' ws.length c'] w fun e w' => e = .returned (.bool (Msg.goodB ⟨l, ws⟩)) ∧ Below w.heap.size w w' := by
  have hbl := Below.refl w.heap.size w
  generalize hn : l.length = n at *
  generalize hn' : ws.length = n' at *
  have HN := Lib.hid hn
  have HN' := Lib.hid hn'
  clear hn hn'
  go_enter Try.func11, Try.ntmps11
  go_wp2_with fail
  go_loop [11] (fun i => ∃ k : Nat, k ≤ n ∧ i = .int .i64 k ∧ chkA l k) (fun i => n - (intOf i).toNat)
  case atStart => exact ⟨0, Nat.zero_le _, rfl, chk_zero _ _ _⟩
  case round =>
    obtain ⟨k, hk, rfl, hchk⟩ := hrel
    by_cases hlt : k < n
    · obtain ⟨b, off, rfl, hb, c0⟩ := hA k (by rw [HN.out]; exact hlt)
      by_cases hv : vs (l.getD k 0) = 0
      · have HO : Hid (Msg.goodB ⟨l, ws⟩ = false) := Lib.hid (goodB_all (m := ⟨l, ws⟩) (k := k + 1) fun h => (chkA_at (by rw [HN.out]; exact hlt) h).1 hv)
        have HV := Lib.hid hv
        generalize l.getD k 0 = x at *
        clear hv hchk
        go_wp2_with (go_at_call 21; refine (vsr_any _ _).mono ?_; rw [HV.out]; rintro e w' ⟨rfl, rfl⟩)
        go_ret
        exact ⟨ret_bool HO.out.symm, hbl⟩
      · have hvp : 0 < vs (l.getD k 0) := by omega
        have hv9 := vs_le (l.getD k 0)
        by_cases h0 : k = 0
        · subst h0
          simp only [Nat.add_zero] at c0
          have hnx : chkA l (0 + 1) := chkA_succ (by rw [HN.out]; exact hlt) hchk hv (by omega)
          generalize hz : vs (l.getD 0 0) = z at *
          have HZ := Lib.hid hz
          generalize l.getD 0 0 = x at *
          have d : ((z : Int) == 0) = false := by simp; omega
          clear hv hchk hvp hz
          go_wp2_with (go_at_call 21; refine (vsr_any _ _).mono ?_; rw [HZ.out]; rintro e w' ⟨rfl, rfl⟩)
          go_round
          case rel => exact ⟨0 + 1, by omega, by go_num, hnx⟩
          case measure => simp [intOf]; omega
        · obtain ⟨j, rfl⟩ : ∃ j, k = j + 1 := ⟨k - 1, by omega⟩
          obtain ⟨b', off', e', hb', c1⟩ := hA j (by rw [HN.out]; omega)
          injection e' with e'
          injection e' with e1 e2
          subst e1 e2
          clear hb'
          by_cases hr : l.getD j 0 < l.getD (j + 1) 0
          · have hnx : chkA l (j + 1 + 1) := chkA_succ (by rw [HN.out]; exact hlt) hchk hv (fun _ => by rw [Nat.add_sub_cancel]; exact hr)
            generalize hz : vs (l.getD (j + 1) 0) = z at *
            have HZ := Lib.hid hz
            generalize l.getD (j + 1) 0 = x at *
            generalize l.getD j 0 = y at *
            have d : ((z : Int) == 0) = false := by simp; omega
            have d2 : decide (x ≤ y) = false := decide_eq_false (by omega)
            have HX := Lib.hid hnx
            clear hv hchk hvp hz hr hnx
            go_wp2_with (go_at_call 21; refine (vsr_any _ _).mono ?_; rw [HZ.out]; rintro e w' ⟨rfl, rfl⟩)
            go_round
            case rel => exact ⟨j + 1 + 1, by omega, by go_num, HX.out⟩
            case measure => simp [intOf]; omega
          · have HO : Hid (Msg.goodB ⟨l, ws⟩ = false) := Lib.hid (goodB_all (m := ⟨l, ws⟩) (k := j + 1 + 1) fun h => hr (by have := (chkA_at (by rw [HN.out]; exact hlt) h).2 (by omega); rwa [Nat.add_sub_cancel] at this))
            generalize hz : vs (l.getD (j + 1) 0) = z at *
            have HZ := Lib.hid hz
            generalize l.getD (j + 1) 0 = x at *
            generalize l.getD j 0 = y at *
            have d : ((z : Int) == 0) = false := by simp; omega
            have d2 : decide (x ≤ y) = true := decide_eq_true (by omega)
            clear hv hchk hvp hz hr
            go_wp2_with (go_at_call 21; refine (vsr_any _ _).mono ?_; rw [HZ.out]; rintro e w' ⟨rfl, rfl⟩)
            go_ret
            exact ⟨ret_bool HO.out.symm, hbl⟩
    · obtain rfl : k = n := by omega
      have HC := Lib.hid hchk
      clear hchk hlt hA
      go_wp2_with fail
      go_loopw [35] (fun i wr => ∃ k' : Nat, k' ≤ n' ∧ i = .int .i64 k' ∧ chkW ws k' ∧ Below w.heap.size w wr) (fun i _ => n' - (intOf i).toNat)
      case atStart => exact ⟨0, Nat.zero_le _, rfl, chk_zero _ _ _, Below.refl _ _⟩
      case round =>
        clear hbl
        obtain ⟨k', hk', rfl, hchk, hbw⟩ := hrel
        by_cases hlt : k' < n'
        · obtain ⟨b, off, rfl, hb, q0, q1, q2, q3⟩ := hA' k' (by rw [HN'.out]; exact hlt)
          have hin : ∀ (o : Nat) (v : Value), w.cell? ⟨b, o, none⟩ = some v → wr.cell? ⟨b, o, none⟩ = some v := fun o v h => (hbw.cell (p := ⟨b, o, none⟩) (by show b < _; omega)).trans h
          have c0 := hin _ _ q0
          have c1 := hin _ _ q1
          have c2 := hin _ _ q2
          have c3 := hin _ _ q3
          have hga : ∀ (j : Nat), j < n' → ∀ o : Obj, o = .cells #[.int .i64 (ws.getD k' wd0).t, .int .i64 (ws.getD k' wd0).v, .int .i64 (ws.getD k' wd0).e, .int .i64 (ws.getD k' wd0).b] 43 →
              RAt w wr (wr.alloc o) b (off + j * 4) (ws.getD k' wd0) (ws.getD j wd0) := by
            rintro j hj o rfl
            obtain ⟨b', off', e', hb', p0, p1, _, _⟩ := hA' j (by rw [HN'.out]; exact hj)
            injection e' with e'
            injection e' with e1 e2
            subst e1 e2
            have hbn := Blk.new wr 43 #[.int .i64 (ws.getD k' wd0).t, .int .i64 (ws.getD k' wd0).v, .int .i64 (ws.getD k' wd0).e, .int .i64 (ws.getD k' wd0).b]
            have hs := hbw.size
            exact ⟨hbw.alloc hs _, hbn.cell 0, hbn.cell 1, hbn.cell 2, hbn.cell 3, ((bel_alloc wr _).cell (p := ⟨b, off + j * 4, none⟩) (by show b < _; omega)).trans (hin _ _ p0),
              ((bel_alloc wr _).cell (p := ⟨b, off + j * 4 + 1, none⟩) (by show b < _; omega)).trans (hin _ _ p1), by simp, by simp; omega⟩
          have HGA := Lib.hid hga
          clear q0 q1 q2 q3 hga hin
          rcases word_cases (ws.getD k' wd0) with ⟨hv, hat, h1, h2, h3, h4⟩ | ⟨hv, hcase⟩
          · have HT := Lib.hid hat
            by_cases h0 : k' = 0
            · subst h0
              have HX := Lib.hid (chkW_succ (by rw [HN'.out]; exact hlt) hchk hv (by omega))
              have ga := HGA.out 0 hlt _ rfl
              clear HGA
              generalize ws.getD 0 wd0 = x at *
              obtain ⟨t, v, e, g⟩ := x
              simp only [Nat.zero_mul, Nat.add_zero] at c0 c1 c2 c3 h1 h2 h3 h4
              clear hv hchk hat
              go_wp2_with fail
              generalize wr.alloc (.cells #[.int .i64 t, .int .i64 v, .int .i64 e, .int .i64 g] 43) = Wn at *
              obtain ⟨g2, g3, ga2, ga3, _, _⟩ := ga.cells
              clear c0 c1 c2 c3 hbw
              go_wp2_with (go_at_call 19; refine (attrr_any t v _).mono ?_; rw [HT.out]; rintro e1 w1 ⟨rfl, b1⟩; have ga1 := ga.on b1; obtain ⟨f2, f3, fa2, fa3, _, _⟩ := ga1.cells)
              go_quiet (fail)
              have hf : Below w.heap.size w (w1.drewN nq) := bel_drewN ga1.low nq
              clear b1 ga1 ga
              go_wp2_with fail
              go_roundw
              case rel => exact ⟨0 + 1, by omega, by go_num, HX.out, hf⟩
              case measure => simp [intOf]; omega
            · obtain ⟨j, rfl⟩ : ∃ j, k' = j + 1 := ⟨k' - 1, by omega⟩
              have ga := HGA.out j (by omega) _ rfl
              clear HGA
              have hj1 : j < n' := by omega
              have hjr : ∃ r, r = decide (lessP (ws.getD j wd0) (ws.getD (j + 1) wd0)) := ⟨_, rfl⟩
              by_cases hr : lessP (ws.getD j wd0) (ws.getD (j + 1) wd0)
              · have HX := Lib.hid (chkW_succ (by rw [HN'.out]; exact hlt) hchk hv (fun _ => by rw [Nat.add_sub_cancel]; exact hr))
                have HL : Hid (lessB (ws.getD j wd0).t (ws.getD j wd0).v (ws.getD (j + 1) wd0).t (ws.getD (j + 1) wd0).v = true) := Lib.hid (decide_eq_true hr)
                clear hjr
                generalize ws.getD (j + 1) wd0 = x at *
                generalize ws.getD j wd0 = y at *
                obtain ⟨t, v, e, g⟩ := x
                obtain ⟨t', v', e', g'⟩ := y
                simp only at c0 c1 c2 c3 h1 h2 h3 h4
                clear hv hchk hr hat
                go_wp2_with fail
                generalize wr.alloc (.cells #[.int .i64 t, .int .i64 v, .int .i64 e, .int .i64 g] 43) = Wn at *
                obtain ⟨g2, g3, ga2, ga3, _, _⟩ := ga.cells
                clear c0 c1 c2 c3 hbw
                go_wp2_with (go_at_call 19; refine (attrr_any t v _).mono ?_; rw [HT.out]; rintro e1 w1 ⟨rfl, b1⟩; have ga1 := ga.on b1; obtain ⟨f2, f3, fa2, fa3, _, _⟩ := ga1.cells)
                clear b1 ga g2 g3 ga2 ga3
                have hj2 : (j : Int) < (n' : Int) := by omega
                have hj3 : (0 : Int) ≤ (j : Int) := by omega
                have hj4 : IntKind.i64.wrap (j : Int) = (j : Int) := IntWalk.i64_in _ (by omega)
                have hj5 : IntKind.i64.wrap ((j : Int) + 1 - 1) = (j : Int) := by rw [Int.add_sub_cancel]; exact hj4
                go_region_held3 (fun w' => w'.cell? ⟨wr.heap.size, 0, none⟩ = some (.int .i64 t) ∧ w'.cell? ⟨wr.heap.size, 1, none⟩ = some (.int .i64 v) ∧ w'.cell? ⟨b, off + j * 4, none⟩ = some (.int .i64 t') ∧ w'.cell? ⟨b, off + j * 4 + 1, none⟩ = some (.int .i64 v')) (first | exact ⟨ga2.n0, ga2.n1, ga2.p0, ga2.p1⟩ | exact ⟨ga1.n0, ga1.n1, ga1.p0, ga1.p1⟩)
                  (first | (go_at_call 20; refine (less_any t' v' t v _).mono ?_; rw [HL.out]; rintro e2 w2 ⟨rfl, b2⟩; have ga2 := ga1.go b2))
                all_goals
                  have hf2 := ga2.low
                  clear b2 ga1 ga2
                  go_wp2_with fail
                  go_roundw
                  case rel => exact ⟨j + 1 + 1, by omega, by go_num, HX.out, hf2⟩
                  case measure => simp [intOf]; omega
              · have HO : Hid (Msg.goodB ⟨l, ws⟩ = false) := Lib.hid (goodB_ws (m := ⟨l, ws⟩) (k := j + 1 + 1) fun h => hr (by have := (chkW_at (by rw [HN'.out]; exact hlt) h).2 (by omega); rwa [Nat.add_sub_cancel] at this))
                have HL : Hid (lessB (ws.getD j wd0).t (ws.getD j wd0).v (ws.getD (j + 1) wd0).t (ws.getD (j + 1) wd0).v = false) := Lib.hid (decide_eq_false hr)
                clear hjr
                generalize ws.getD (j + 1) wd0 = x at *
                generalize ws.getD j wd0 = y at *
                obtain ⟨t, v, e, g⟩ := x
                obtain ⟨t', v', e', g'⟩ := y
                simp only at c0 c1 c2 c3 h1 h2 h3 h4
                clear hv hchk hr hat
                go_wp2_with fail
                generalize wr.alloc (.cells #[.int .i64 t, .int .i64 v, .int .i64 e, .int .i64 g] 43) = Wn at *
                obtain ⟨g2, g3, ga2, ga3, _, _⟩ := ga.cells
                clear c0 c1 c2 c3 hbw
                go_wp2_with (go_at_call 19; refine (attrr_any t v _).mono ?_; rw [HT.out]; rintro e1 w1 ⟨rfl, b1⟩; have ga1 := ga.on b1; obtain ⟨f2, f3, fa2, fa3, _, _⟩ := ga1.cells)
                clear b1 ga g2 g3 ga2 ga3
                have hj2 : (j : Int) < (n' : Int) := by omega
                have hj3 : (0 : Int) ≤ (j : Int) := by omega
                have hj4 : IntKind.i64.wrap (j : Int) = (j : Int) := IntWalk.i64_in _ (by omega)
                have hj5 : IntKind.i64.wrap ((j : Int) + 1 - 1) = (j : Int) := by rw [Int.add_sub_cancel]; exact hj4
                go_region_held3 (fun w' => w'.cell? ⟨wr.heap.size, 0, none⟩ = some (.int .i64 t) ∧ w'.cell? ⟨wr.heap.size, 1, none⟩ = some (.int .i64 v) ∧ w'.cell? ⟨b, off + j * 4, none⟩ = some (.int .i64 t') ∧ w'.cell? ⟨b, off + j * 4 + 1, none⟩ = some (.int .i64 v')) (first | exact ⟨ga2.n0, ga2.n1, ga2.p0, ga2.p1⟩ | exact ⟨ga1.n0, ga1.n1, ga1.p0, ga1.p1⟩)
                  (first | (go_at_call 20; refine (less_any t' v' t v _).mono ?_; rw [HL.out]; rintro e2 w2 ⟨rfl, b2⟩; have ga2 := ga1.go b2))
                all_goals
                  have hf2 := ga2.low
                  clear b2 ga1 ga2
                  go_wp2_with fail
                  go_ret
                  exact ⟨ret_bool HO.out.symm, hf2⟩
          · have HO : Hid (Msg.goodB ⟨l, ws⟩ = false) := Lib.hid (goodB_ws (m := ⟨l, ws⟩) (k := k' + 1) fun h => hv (chkW_at (by rw [HN'.out]; exact hlt) h).1)
            have ga := HGA.out k' hlt _ rfl
            clear HGA
            generalize ws.getD k' wd0 = x at *
            obtain ⟨t, v, e, g⟩ := x
            simp only at c0 c1 c2 c3 hcase
            clear hv hchk
            go_wp2_with fail
            generalize wr.alloc (.cells #[.int .i64 t, .int .i64 v, .int .i64 e, .int .i64 g] 43) = Wn at *
            obtain ⟨g2, g3, ga2, ga3, _, _⟩ := ga.cells
            clear c0 c1 c2 c3 hbw
            rcases hcase with hat | ⟨hat, h1⟩ | ⟨hat, h1, h2⟩ | ⟨hat, h1, h2, h3⟩ | ⟨hat, h1, h2, h3, h4⟩
            all_goals
              have HT := Lib.hid hat
              clear hat
              go_wp2_with (go_at_call 19; refine (attrr_any t v _).mono ?_; rw [HT.out]; rintro e1 w1 ⟨rfl, b1⟩; have ga1 := ga.on b1; obtain ⟨f2, f3, fa2, fa3, _, _⟩ := ga1.cells)
              go_ret
              exact ⟨ret_bool HO.out.symm, ga1.low⟩
        · obtain rfl : k' = n' := by omega
          have HO : Hid (Msg.goodB ⟨l, ws⟩ = true) := Lib.hid (goodB_true (m := ⟨l, ws⟩) (by show chkA l l.length; rw [HN.out]; exact HC.out) (by show chkW ws ws.length; rw [HN'.out]; exact hchk))
          clear hchk
          go_wp2_with fail
          go_ret
          exact ⟨ret_bool HO.out.symm, hbw⟩
end Go.Proofs.Ytoigapanhbmjlaa
