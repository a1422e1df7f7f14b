/- Good and At answer what the document says, of all tables (P13.1). No condition. -/
import Derived.Test.YtkdnngcmiggoeaaJgood
import Derived.Test.YtkdnngcmiggoeaaJeq
namespace Go.Proofs.Ytkdnngcmiggoeaa
open Go.ChangeShapes Go.WideShapes Go.ChangeAt Go.RowKit
set_option maxRecDepth 100000

set_option maxHeartbeats 8000000 in
theorem walkTableGood (A : Option Addr) (cap : Nat) (t : Tb) (s e : Int) (w : World) (ht : TbAt w w.heap.size A t ∧ t.length ≤ maxLen ∧ ∀ r ∈ t, r.length ≤ maxLen) (_hs : (Lit.int .i64 s).wf = true) (_he : (Lit.int .i64 e).wf = true) :
    Calls Try.prog 5 #[.slice A t.length cap, .int .i64 s, .int .i64 e] w fun r w' => r = .returned (.bool true) ∧ Below w.heap.size w w' := by
  have HT := Lib.hid ht
  obtain ⟨n, hn⟩ : ∃ n, t.length = n := ⟨_, rfl⟩
  have HN := Lib.hid hn
  have hgr := fun (w0 : World) (b : Below w.heap.size w w0) => great13_any w0 A cap t (HT.out.1.keep b b.size) HT.out.2.1
  have hat := fun (w0 : World) (b : Below w.heap.size w w0) => at_any A cap t s e w0 (HT.out.1.keep b b.size)
  have hgd := fun (w0 : World) (b : Below w.heap.size w w0) => good13_any w0 A cap t (HT.out.1.keep b b.size) HT.out.2.1 HT.out.2.2
  rw [hn] at hgr hat hgd ⊢
  have HG := Lib.hid hgr
  have HAT := Lib.hid hat
  have HGD := Lib.hid hgd
  clear ht hgr hat hgd hn
  go_enter Try.func5, Try.ntmps5
  go_wp2_with fail
  refine (alive13_any w).mono ?_
  rintro r w1 ⟨rfl, b1⟩
  go_wp2_with fail
  refine (HG.out w1 b1).mono ?_
  rintro r w2 ⟨rfl, b2⟩
  have b02 := b1.trans (b2.mono b1.size)
  cases hgt : greatT t with
  | true =>
    go_wp2_with fail
    go_ret
    exact ⟨rfl, b02⟩
  | false =>
    have hn20 : n ≤ 20 := by
      unfold greatT at hgt
      rw [Bool.or_eq_false_iff, HN.out] at hgt
      have := of_decide_eq_false hgt.2
      omega
    have B02 := Lib.hid b02
    clear b1 b2 b02
    go_wp2_with fail
    go_loopw [7, 25] (fun gv iv wr => ∃ (j : Nat) (b : Bool), j ≤ n ∧ iv = .int .i64 j ∧ gv = .bool b ∧ Hid (b = (decide (0 < n) && (t.take j).all (rowGood t))) ∧ Hid (Below w2.heap.size w2 wr)) (fun _ iv _ => n - (intOf iv).toNat)
    case atStart => exact ⟨0, _, Nat.zero_le _, rfl, rfl, Lib.hid (by rw [List.take_zero]; simp), Lib.hid (Below.refl _ _)⟩
    case round =>
      obtain ⟨j, b, hj, rfl, rfl, hb, hB⟩ := hrel
      have hbw := B02.out.trans (hB.out.mono B02.out.size)
      by_cases hlt : j < n
      · have j1 : (j : Int) < n := by omega
        have j0 : (0 : Int) ≤ j := by omega
        have HJ := Lib.hid (show wrap64 ((j : Int) + 1) = (j : Int) + 1 from IntWalk.wrap64_in _ (by omega))
        obtain ⟨bb, off, a, cc, rfl, hbl, p, hrow⟩ := HT.out.1 j (by rw [HN.out]; exact hlt)
        obtain ⟨b', off', a0, c0, e', _, p0, _⟩ := HT.out.1 0 (by rw [HN.out]; omega)
        injection e' with e'
        injection e' with e1 e2
        subst e1 e2
        have htk : (t.take (j + 1)).all (rowGood t) = ((t.take j).all (rowGood t) && rowGood t (t.getD j [])) := by
          have hl : j < t.length := by rw [HN.out]; exact hlt
          rw [List.take_add_one, List.getElem?_eq_getElem hl, List.all_append, List.getD_eq_getElem?_getD, List.getElem?_eq_getElem hl]
          simp
        obtain ⟨R, hRR⟩ : ∃ R, t.getD j [] = R := ⟨_, rfl⟩
        rw [hRR] at p hrow htk
        obtain ⟨m, hm⟩ : ∃ m, R.length = m := ⟨_, rfl⟩
        obtain ⟨m0, hm0⟩ : ∃ m0, (t.getD 0 []).length = m0 := ⟨_, rfl⟩
        rw [hm] at p
        rw [hm0, Nat.add_zero] at p0
        have hml : m ≤ 20 := by
          have hl : j < t.length := by rw [HN.out]; exact hlt
          by_cases h : m ≤ 20
          · exact h
          · have := greatT_row (t := t) (j := j) hl (by rw [hRR, hm]; omega)
            rw [hgt] at this
            cases this
        have q := (hbw.cell (p := ⟨bb, off + j, none⟩) hbl).trans p
        have q0 := (hbw.cell (p := ⟨bb, off, none⟩) hbl).trans p0
        have hcr := hrow.below B02.out
        have HR := Lib.hid (And.intro hcr (And.intro hm (show rowGood t R = (decide (m = m0) && R.all fun c => hasB t c.1) by unfold rowGood; rw [hm, hm0])))
        have HTK := Lib.hid htk
        clear p p0 hrow hbl hm hm0 htk hcr hRR hbw
        obtain ⟨bm, hbm⟩ : ∃ bm, decide (m = m0) = bm := ⟨_, rfl⟩
        have hbe : ((m : Int) == (m0 : Int)) = bm := by
          rw [← hbm]
          by_cases h : m = m0
          · subst h; simp
          · rw [decide_eq_false h]; simp; omega
        obtain ⟨bs, hbs⟩ : ∃ bs, (b && bm) = bs := ⟨_, rfl⟩
        have HBM := Lib.hid hbm
        have HBS := Lib.hid hbs
        clear hbs hbm
        cases b
        all_goals
          go_wp2_with fail
          go_loopw [7, 41] (fun gv iv wr => ∃ (i : Nat) (b : Bool), i ≤ m ∧ iv = .int .i64 i ∧ gv = .bool b ∧ Hid (b = (bs && (R.take i).all fun c => hasB t c.1)) ∧ Hid (Below w2.heap.size w2 wr)) (fun _ iv _ => m - (intOf iv).toNat)
          case atStart => exact ⟨0, _, Nat.zero_le _, rfl, rfl, Lib.hid (by rw [List.take_zero]; simp [← HBS.out]), hB⟩
          case round =>
            obtain ⟨i, b, hi, rfl, rfl, hI, hB2⟩ := hrel
            by_cases hil : i < m
            · have i1 : (i : Int) < m := by omega
              have i0 : (0 : Int) ≤ i := by omega
              have HI := Lib.hid (show wrap64 ((i : Int) + 1) = (i : Int) + 1 from IntWalk.wrap64_in _ (by omega))
              obtain ⟨ga, oa, ea, hba, pa0, pa1⟩ := HR.out.1 i (by rw [HR.out.2.1]; exact hil)
              subst ea
              have bel2 := hB2.out
              have hbw2 := B02.out.trans (bel2.mono B02.out.size)
              obtain ⟨x, hx⟩ : ∃ x, R.getD i ce0 = x := ⟨_, rfl⟩
              rw [hx] at pa0 pa1
              obtain ⟨x0, x1⟩ := x
              have hfin : ∀ b'' : Bool, b'' = (b && (decide (0 ≤ x0) && decide (x0 < (n : Int)))) → Hid (b'' = (bs && (R.take (i + 1)).all fun c => hasB t c.1)) := fun b'' h => Lib.hid (by
                have hl : i < R.length := by rw [HR.out.2.1]; exact hil
                rw [List.getD_eq_getElem?_getD, List.getElem?_eq_getElem hl] at hx
                have hx' : R[i] = (x0, x1) := hx
                rw [List.take_add_one, List.getElem?_eq_getElem hl, List.all_append, ← Bool.and_assoc, ← hI.out, h]
                simp only [Option.toList, List.all_cons, List.all_nil, Bool.and_true, hx', hasB, HN.out])
              have HF := Lib.hid hfin
              have HPA := Lib.hid (And.intro pa0 pa1)
              have hba2 : ga < w2.heap.size := Nat.lt_of_lt_of_le hba B02.out.size
              have qa0 : wr.cell? ⟨ga, oa + i * 2, none⟩ = some (.int .i64 x0) := (bel2.cell (p := ⟨ga, oa + i * 2, none⟩) hba2).trans pa0
              have qa1 : wr.cell? ⟨ga, oa + i * 2 + 1, none⟩ = some (.int .i64 x1) := (bel2.cell (p := ⟨ga, oa + i * 2 + 1, none⟩) hba2).trans pa1
              have r0 : (wr.alloc (.cells #[.int .i64 x0, .int .i64 x1] 56)).cell? ⟨wr.heap.size, 0, none⟩ = some (.int .i64 x0) := (Blk.new wr 56 #[.int .i64 x0, .int .i64 x1]).cell 0
              have HB2 := Lib.hid (bel2.alloc bel2.size (.cells #[.int .i64 x0, .int .i64 x1] 56))
              clear pa0 pa1 hba hba2 hx hfin hbw2 bel2
              by_cases h0 : x0 ≥ 0
              · by_cases h1 : x0 < (n : Int)
                · cases b
                  all_goals
                    go_wp2_with fail
                    go_roundw
                    case rel =>
                      try rw [HI.out]
                      exact ⟨i + 1, _, hil, by rw [Int.natCast_add]; rfl, rfl, HF.out _ (by rw [decide_eq_true (show 0 ≤ x0 from h0), decide_eq_true h1]; simp), HB2⟩
                    case measure =>
                      try rw [HI.out]
                      show m - ((i : Int) + 1).toNat < m - ((i : Int)).toNat
                      omega
                · cases b
                  all_goals
                    go_wp2_with fail
                    go_roundw
                    case rel =>
                      try rw [HI.out]
                      exact ⟨i + 1, _, hil, by rw [Int.natCast_add]; rfl, rfl, HF.out _ (by rw [decide_eq_false h1]; simp), HB2⟩
                    case measure =>
                      try rw [HI.out]
                      show m - ((i : Int) + 1).toNat < m - ((i : Int)).toNat
                      omega
              · cases b
                all_goals
                  go_wp2_with fail
                  go_roundw
                  case rel =>
                    try rw [HI.out]
                    exact ⟨i + 1, _, hil, by rw [Int.natCast_add]; rfl, rfl, HF.out _ (by rw [decide_eq_false (show ¬ 0 ≤ x0 from h0)]; simp), HB2⟩
                  case measure =>
                    try rw [HI.out]
                    show m - ((i : Int) + 1).toNat < m - ((i : Int)).toNat
                    omega
            · obtain rfl : m = i := by omega
              have hend : b = (decide (0 < n) && (t.take (j + 1)).all (rowGood t)) := by
                rw [HTK.out, HR.out.2.2, hI.out, List.take_of_length_le (by rw [HR.out.2.1]; exact Nat.le_refl _), HBM.out, ← Bool.and_assoc, ← Bool.and_assoc, ← hb.out, ← HBS.out]
              have HEND := Lib.hid hend
              clear hend
              go_wp2_with fail
              go_roundw
              case rel =>
                try rw [HJ.out]
                exact ⟨j + 1, b, hlt, by rw [Int.natCast_add]; rfl, rfl, HEND, hB2⟩
              case measure =>
                try rw [HJ.out]
                show n - ((j : Int) + 1).toNat < n - ((j : Int)).toNat
                omega
      · obtain rfl : n = j := by omega
        have hgood : b = goodT t := by
          rw [hb.out, List.take_of_length_le (by rw [HN.out]; exact Nat.le_refl _), Bool.and_comm]
          unfold goodT
          rw [HN.out]
        have HGB := Lib.hid hgood
        clear hgood
        by_cases s0 : s < 0
        · have s1 : ¬ s ≥ 0 := by omega
          have HA := Lib.hid (show Calls Try.prog 25 #[.slice A n cap, .int .i64 s, .int .i64 e] wr fun r w' => r = .returned (.tuple #[.agg #[.int .i64 s, .int .i64 0], .bool false]) ∧ Below wr.heap.size wr w' by
            have := HAT.out wr hbw
            rw [atV_none (by unfold cellT hasB; rw [if_neg]; intro h; simp only [Bool.and_eq_true, decide_eq_true_eq, HN.out] at h; omega)] at this
            exact this)
          clear hbw
          go_wp2_with fail
          refine HA.out.mono ?_
          rintro r w3 ⟨rfl, b3⟩
          have HB3 := Lib.hid (B02.out.trans ((hB.out.trans (b3.mono hB.out.size)).mono B02.out.size))
          clear b3
          go_wp2_with fail
          have HGD2 := Lib.hid (show Calls Try.prog 22 #[.slice A n cap] ((w3.alloc (.cells #[.int .i64 s, .int .i64 0] 56)).alloc (.cells #[.int .i64 s, .int .i64 0] 56)) fun e w' => e = .returned (.bool b) ∧ Below ((w3.alloc (.cells #[.int .i64 s, .int .i64 0] 56)).alloc (.cells #[.int .i64 s, .int .i64 0] 56)).heap.size ((w3.alloc (.cells #[.int .i64 s, .int .i64 0] 56)).alloc (.cells #[.int .i64 s, .int .i64 0] 56)) w' by
            have b5 := HB3.out.trans ((bel_alloc2 w3 (.cells #[.int .i64 s, .int .i64 0] 56) (.cells #[.int .i64 s, .int .i64 0] 56)).mono HB3.out.size)
            have := HGD.out _ b5
            rw [← HGB.out] at this
            exact this)
          refine HGD2.out.mono ?_
          rintro r w6 ⟨rfl, b6⟩
          have k1 := ((Blk.new w3 56 #[.int .i64 s, .int .i64 0]).alloc (.cells #[.int .i64 s, .int .i64 0] 56)).below b6 (by simp; omega)
          have k2' := Blk.new (w3.alloc (.cells #[.int .i64 s, .int .i64 0] 56)) 56 #[.int .i64 s, .int .i64 0]
          rw [show (w3.alloc (.cells #[.int .i64 s, .int .i64 0] 56)).heap.size = w3.heap.size + 1 by simp] at k2'
          have k2 := k2'.below b6 (by simp)
          have y0 : w6.cell? ⟨w3.heap.size, 0, none⟩ = some (.int .i64 s) := k1.cell 0
          have y1 : w6.cell? ⟨w3.heap.size, 1, none⟩ = some (.int .i64 0) := k1.cell 1
          have z0 : w6.cell? ⟨w3.heap.size + 1, 0, none⟩ = some (.int .i64 s) := k2.cell 0
          have z1 : w6.cell? ⟨w3.heap.size + 1, 1, none⟩ = some (.int .i64 0) := k2.cell 1
          have HB6 := Lib.hid ((HB3.out.trans ((bel_alloc2 w3 (.cells #[.int .i64 s, .int .i64 0] 56) (.cells #[.int .i64 s, .int .i64 0] 56)).mono HB3.out.size)).trans (b6.mono (by have := HB3.out.size; simp; omega)))
          clear k1 k2 k2' b6
          cases b
          all_goals
            go_wp2_with fail
            go_ret
            exact ⟨rfl, HB6.out⟩
        by_cases sn : s < (n : Int)
        rotate_left
        · have s1 : s ≥ 0 := by omega
          have HA := Lib.hid (show Calls Try.prog 25 #[.slice A n cap, .int .i64 s, .int .i64 e] wr fun r w' => r = .returned (.tuple #[.agg #[.int .i64 s, .int .i64 0], .bool false]) ∧ Below wr.heap.size wr w' by
            have := HAT.out wr hbw
            rw [atV_none (by unfold cellT hasB; rw [if_neg]; intro h; simp only [Bool.and_eq_true, decide_eq_true_eq, HN.out] at h; omega)] at this
            exact this)
          clear hbw
          go_wp2_with fail
          refine HA.out.mono ?_
          rintro r w3 ⟨rfl, b3⟩
          have HB3 := Lib.hid (B02.out.trans ((hB.out.trans (b3.mono hB.out.size)).mono B02.out.size))
          clear b3
          go_wp2_with fail
          have HGD2 := Lib.hid (show Calls Try.prog 22 #[.slice A n cap] ((w3.alloc (.cells #[.int .i64 s, .int .i64 0] 56)).alloc (.cells #[.int .i64 s, .int .i64 0] 56)) fun e w' => e = .returned (.bool b) ∧ Below ((w3.alloc (.cells #[.int .i64 s, .int .i64 0] 56)).alloc (.cells #[.int .i64 s, .int .i64 0] 56)).heap.size ((w3.alloc (.cells #[.int .i64 s, .int .i64 0] 56)).alloc (.cells #[.int .i64 s, .int .i64 0] 56)) w' by
            have b5 := HB3.out.trans ((bel_alloc2 w3 (.cells #[.int .i64 s, .int .i64 0] 56) (.cells #[.int .i64 s, .int .i64 0] 56)).mono HB3.out.size)
            have := HGD.out _ b5
            rw [← HGB.out] at this
            exact this)
          refine HGD2.out.mono ?_
          rintro r w6 ⟨rfl, b6⟩
          have k1 := ((Blk.new w3 56 #[.int .i64 s, .int .i64 0]).alloc (.cells #[.int .i64 s, .int .i64 0] 56)).below b6 (by simp; omega)
          have k2' := Blk.new (w3.alloc (.cells #[.int .i64 s, .int .i64 0] 56)) 56 #[.int .i64 s, .int .i64 0]
          rw [show (w3.alloc (.cells #[.int .i64 s, .int .i64 0] 56)).heap.size = w3.heap.size + 1 by simp] at k2'
          have k2 := k2'.below b6 (by simp)
          have y0 : w6.cell? ⟨w3.heap.size, 0, none⟩ = some (.int .i64 s) := k1.cell 0
          have y1 : w6.cell? ⟨w3.heap.size, 1, none⟩ = some (.int .i64 0) := k1.cell 1
          have z0 : w6.cell? ⟨w3.heap.size + 1, 0, none⟩ = some (.int .i64 s) := k2.cell 0
          have z1 : w6.cell? ⟨w3.heap.size + 1, 1, none⟩ = some (.int .i64 0) := k2.cell 1
          have HB6 := Lib.hid ((HB3.out.trans ((bel_alloc2 w3 (.cells #[.int .i64 s, .int .i64 0] 56) (.cells #[.int .i64 s, .int .i64 0] 56)).mono HB3.out.size)).trans (b6.mono (by have := HB3.out.size; simp; omega)))
          clear k1 k2 k2' b6
          cases b
          all_goals
            go_wp2_with fail
            go_ret
            exact ⟨rfl, HB6.out⟩
        obtain ⟨k, rfl⟩ : ∃ k : Nat, s = k := ⟨s.toNat, by omega⟩
        have hkn : k < n := by omega
        have s1 : (k : Int) ≥ 0 := by omega
        by_cases e0 : e < 0
        · have e1 : ¬ e ≥ 0 := by omega
          have HA := Lib.hid (show Calls Try.prog 25 #[.slice A n cap, .int .i64 k, .int .i64 e] wr fun r w' => r = .returned (.tuple #[.agg #[.int .i64 k, .int .i64 0], .bool false]) ∧ Below wr.heap.size wr w' by
            have := HAT.out wr hbw
            rw [atV_none (by unfold cellT hasB; rw [if_neg]; intro h; simp only [Bool.and_eq_true, decide_eq_true_eq, HN.out] at h; omega)] at this
            exact this)
          clear hbw
          go_wp2_with fail
          refine HA.out.mono ?_
          rintro r w3 ⟨rfl, b3⟩
          have HB3 := Lib.hid (B02.out.trans ((hB.out.trans (b3.mono hB.out.size)).mono B02.out.size))
          clear b3
          go_wp2_with fail
          have HGD2 := Lib.hid (show Calls Try.prog 22 #[.slice A n cap] ((w3.alloc (.cells #[.int .i64 k, .int .i64 0] 56)).alloc (.cells #[.int .i64 k, .int .i64 0] 56)) fun e w' => e = .returned (.bool b) ∧ Below ((w3.alloc (.cells #[.int .i64 k, .int .i64 0] 56)).alloc (.cells #[.int .i64 k, .int .i64 0] 56)).heap.size ((w3.alloc (.cells #[.int .i64 k, .int .i64 0] 56)).alloc (.cells #[.int .i64 k, .int .i64 0] 56)) w' by
            have b5 := HB3.out.trans ((bel_alloc2 w3 (.cells #[.int .i64 k, .int .i64 0] 56) (.cells #[.int .i64 k, .int .i64 0] 56)).mono HB3.out.size)
            have := HGD.out _ b5
            rw [← HGB.out] at this
            exact this)
          refine HGD2.out.mono ?_
          rintro r w6 ⟨rfl, b6⟩
          have k1 := ((Blk.new w3 56 #[.int .i64 k, .int .i64 0]).alloc (.cells #[.int .i64 k, .int .i64 0] 56)).below b6 (by simp; omega)
          have k2' := Blk.new (w3.alloc (.cells #[.int .i64 k, .int .i64 0] 56)) 56 #[.int .i64 k, .int .i64 0]
          rw [show (w3.alloc (.cells #[.int .i64 k, .int .i64 0] 56)).heap.size = w3.heap.size + 1 by simp] at k2'
          have k2 := k2'.below b6 (by simp)
          have y0 : w6.cell? ⟨w3.heap.size, 0, none⟩ = some (.int .i64 k) := k1.cell 0
          have y1 : w6.cell? ⟨w3.heap.size, 1, none⟩ = some (.int .i64 0) := k1.cell 1
          have z0 : w6.cell? ⟨w3.heap.size + 1, 0, none⟩ = some (.int .i64 k) := k2.cell 0
          have z1 : w6.cell? ⟨w3.heap.size + 1, 1, none⟩ = some (.int .i64 0) := k2.cell 1
          have HB6 := Lib.hid ((HB3.out.trans ((bel_alloc2 w3 (.cells #[.int .i64 k, .int .i64 0] 56) (.cells #[.int .i64 k, .int .i64 0] 56)).mono HB3.out.size)).trans (b6.mono (by have := HB3.out.size; simp; omega)))
          clear k1 k2 k2' b6
          cases b
          all_goals
            go_wp2_with fail
            go_ret
            exact ⟨rfl, HB6.out⟩
        have e1 : e ≥ 0 := by omega
        obtain ⟨bb, off, a, cc, rfl, hbl, p, hrow⟩ := HT.out.1 k (by rw [HN.out]; exact hkn)
        obtain ⟨R, hRR⟩ : ∃ R, t.getD k [] = R := ⟨_, rfl⟩
        rw [hRR] at p hrow
        obtain ⟨m, hm⟩ : ∃ m, R.length = m := ⟨_, rfl⟩
        rw [hm] at p
        by_cases em : e < (m : Int)
        rotate_left
        ·
          have HA := Lib.hid (show Calls Try.prog 25 #[.slice (some ⟨bb, off, none⟩) n cap, .int .i64 k, .int .i64 e] wr fun r w' => r = .returned (.tuple #[.agg #[.int .i64 k, .int .i64 0], .bool false]) ∧ Below wr.heap.size wr w' by
            have := HAT.out wr hbw
            rw [atV_none (by unfold cellT; rw [if_neg]; intro h; rw [show ((k : Int)).toNat = k from rfl, hRR, hm] at h; omega)] at this
            exact this)
          clear hbw
          go_wp2_with fail
          refine HA.out.mono ?_
          rintro r w3 ⟨rfl, b3⟩
          have HB3 := Lib.hid (B02.out.trans ((hB.out.trans (b3.mono hB.out.size)).mono B02.out.size))
          clear b3
          have qr : ((w3.alloc (.cells #[.int .i64 k, .int .i64 0] 56)).alloc (.cells #[.int .i64 k, .int .i64 0] 56)).cell? ⟨bb, off + k, none⟩ = some (.slice a m cc) := ((HB3.out.trans ((bel_alloc2 w3 (.cells #[.int .i64 k, .int .i64 0] 56) (.cells #[.int .i64 k, .int .i64 0] 56)).mono HB3.out.size)).cell (p := ⟨bb, off + k, none⟩) hbl).trans p
          have HBL := Lib.hid hbl
          have hde : decide (e < (m : Int)) = false := decide_eq_false (by omega)
          clear hbl
          go_wp2_with fail
          have HGD2 := Lib.hid (show Calls Try.prog 22 #[.slice (some ⟨bb, off, none⟩) n cap] ((w3.alloc (.cells #[.int .i64 k, .int .i64 0] 56)).alloc (.cells #[.int .i64 k, .int .i64 0] 56)) fun e w' => e = .returned (.bool b) ∧ Below ((w3.alloc (.cells #[.int .i64 k, .int .i64 0] 56)).alloc (.cells #[.int .i64 k, .int .i64 0] 56)).heap.size ((w3.alloc (.cells #[.int .i64 k, .int .i64 0] 56)).alloc (.cells #[.int .i64 k, .int .i64 0] 56)) w' by
            have b5 := HB3.out.trans ((bel_alloc2 w3 (.cells #[.int .i64 k, .int .i64 0] 56) (.cells #[.int .i64 k, .int .i64 0] 56)).mono HB3.out.size)
            have := HGD.out _ b5
            rw [← HGB.out] at this
            exact this)
          refine HGD2.out.mono ?_
          rintro r w6 ⟨rfl, b6⟩
          have k1 := ((Blk.new w3 56 #[.int .i64 k, .int .i64 0]).alloc (.cells #[.int .i64 k, .int .i64 0] 56)).below b6 (by simp; omega)
          have k2' := Blk.new (w3.alloc (.cells #[.int .i64 k, .int .i64 0] 56)) 56 #[.int .i64 k, .int .i64 0]
          rw [show (w3.alloc (.cells #[.int .i64 k, .int .i64 0] 56)).heap.size = w3.heap.size + 1 by simp] at k2'
          have k2 := k2'.below b6 (by simp)
          have y0 : w6.cell? ⟨w3.heap.size, 0, none⟩ = some (.int .i64 k) := k1.cell 0
          have y1 : w6.cell? ⟨w3.heap.size, 1, none⟩ = some (.int .i64 0) := k1.cell 1
          have z0 : w6.cell? ⟨w3.heap.size + 1, 0, none⟩ = some (.int .i64 k) := k2.cell 0
          have z1 : w6.cell? ⟨w3.heap.size + 1, 1, none⟩ = some (.int .i64 0) := k2.cell 1
          have HB6 := Lib.hid ((HB3.out.trans ((bel_alloc2 w3 (.cells #[.int .i64 k, .int .i64 0] 56) (.cells #[.int .i64 k, .int .i64 0] 56)).mono HB3.out.size)).trans (b6.mono (by have := HB3.out.size; simp; omega)))
          clear k1 k2 k2' b6
          cases b
          all_goals
            go_wp2_with fail
            go_ret
            exact ⟨rfl, HB6.out⟩
        · obtain ⟨j, rfl⟩ : ∃ j : Nat, e = j := ⟨e.toNat, by omega⟩
          have hjm : j < m := by omega
          obtain ⟨gg, og, eg, hgl, pg0, pg1⟩ := hrow j (by rw [hm]; exact hjm)
          subst eg
          obtain ⟨x, hx⟩ : ∃ x, R.getD j ce0 = x := ⟨_, rfl⟩
          rw [hx] at pg0 pg1
          have hce : cellT t k j = some x := by
            unfold cellT
            rw [if_pos ⟨by unfold hasB; simp only [Bool.and_eq_true, decide_eq_true_eq, HN.out]; omega, e1, by rw [show ((k : Int)).toNat = k from rfl, hRR, hm]; exact em⟩, show ((k : Int)).toNat = k from rfl, show ((j : Int)).toNat = j from rfl, hRR, hx]
          obtain ⟨x0, x1⟩ := x
          have HA := Lib.hid (show Calls Try.prog 25 #[.slice (some ⟨bb, off, none⟩) n cap, .int .i64 k, .int .i64 j] wr fun r w' => r = .returned (.tuple #[.agg #[.int .i64 x0, .int .i64 x1], .bool true]) ∧ Below wr.heap.size wr w' by
            have := HAT.out wr hbw
            rw [atV_some hce] at this
            exact this)
          have HQ := Lib.hid (And.intro hbl (And.intro p (And.intro hgl (And.intro pg0 pg1))))
          clear hbw hce hx hbl p hgl pg0 pg1 hrow
          go_wp2_with fail
          refine HA.out.mono ?_
          rintro r w3 ⟨rfl, b3⟩
          have hb3 := B02.out.trans ((hB.out.trans (b3.mono hB.out.size)).mono B02.out.size)
          have HB3 := Lib.hid hb3
          have hb5 := hb3.trans ((bel_alloc2 w3 (.cells #[.int .i64 x0, .int .i64 x1] 56) (.cells #[.int .i64 k, .int .i64 0] 56)).mono hb3.size)
          have k1 := ((Blk.new w3 56 #[.int .i64 x0, .int .i64 x1]).alloc (.cells #[.int .i64 k, .int .i64 0] 56))
          have k2 := Blk.new (w3.alloc (.cells #[.int .i64 x0, .int .i64 x1] 56)) 56 #[.int .i64 k, .int .i64 0]
          rw [show (w3.alloc (.cells #[.int .i64 x0, .int .i64 x1] 56)).heap.size = w3.heap.size + 1 by simp] at k2
          have qr := (hb5.cell (p := ⟨bb, off + k, none⟩) HQ.out.1).trans HQ.out.2.1
          have qg0 := (hb5.cell (p := ⟨gg, og + j * 2, none⟩) HQ.out.2.2.1).trans HQ.out.2.2.2.1
          have qg1 := (hb5.cell (p := ⟨gg, og + j * 2 + 1, none⟩) HQ.out.2.2.1).trans HQ.out.2.2.2.2
          have f0 := k2.frozen 0
          have f1 := k2.frozen 1
          clear b3 hb3 hb5 k1 k2
          go_wp2_with fail
          have HGD2 := Lib.hid (show Calls Try.prog 22 #[.slice (some ⟨bb, off, none⟩) n cap] ((w3.alloc (.cells #[.int .i64 x0, .int .i64 x1] 56)).alloc (.cells #[.int .i64 x0, .int .i64 x1] 56)) fun e w' => e = .returned (.bool b) ∧ Below ((w3.alloc (.cells #[.int .i64 x0, .int .i64 x1] 56)).alloc (.cells #[.int .i64 x0, .int .i64 x1] 56)).heap.size ((w3.alloc (.cells #[.int .i64 x0, .int .i64 x1] 56)).alloc (.cells #[.int .i64 x0, .int .i64 x1] 56)) w' by
            have b5 := HB3.out.trans ((bel_alloc2 w3 (.cells #[.int .i64 x0, .int .i64 x1] 56) (.cells #[.int .i64 x0, .int .i64 x1] 56)).mono HB3.out.size)
            have := HGD.out _ b5
            rw [← HGB.out] at this
            exact this)
          refine HGD2.out.mono ?_
          rintro r w6 ⟨rfl, b6⟩
          have k1 := ((Blk.new w3 56 #[.int .i64 x0, .int .i64 x1]).alloc (.cells #[.int .i64 x0, .int .i64 x1] 56)).below b6 (by simp; omega)
          have k2' := Blk.new (w3.alloc (.cells #[.int .i64 x0, .int .i64 x1] 56)) 56 #[.int .i64 x0, .int .i64 x1]
          rw [show (w3.alloc (.cells #[.int .i64 x0, .int .i64 x1] 56)).heap.size = w3.heap.size + 1 by simp] at k2'
          have k2 := k2'.below b6 (by simp)
          have y0 : w6.cell? ⟨w3.heap.size, 0, none⟩ = some (.int .i64 x0) := k1.cell 0
          have y1 : w6.cell? ⟨w3.heap.size, 1, none⟩ = some (.int .i64 x1) := k1.cell 1
          have z0 : w6.cell? ⟨w3.heap.size + 1, 0, none⟩ = some (.int .i64 x0) := k2.cell 0
          have z1 : w6.cell? ⟨w3.heap.size + 1, 1, none⟩ = some (.int .i64 x1) := k2.cell 1
          have HB6 := Lib.hid ((HB3.out.trans ((bel_alloc2 w3 (.cells #[.int .i64 x0, .int .i64 x1] 56) (.cells #[.int .i64 x0, .int .i64 x1] 56)).mono HB3.out.size)).trans (b6.mono (by have := HB3.out.size; simp; omega)))
          clear k1 k2 k2' b6
          cases b
          all_goals
            go_wp2_with fail
            go_ret
            exact ⟨rfl, HB6.out⟩

set_option maxRecDepth 100000 in
theorem liftedTableGood (os : Os) (started : os.Started) (H : Type) (enc : TypeId × Value → H) :
    ReturnsInHanded {} Try.checked os 5 .any (Rows.tableGoodSpec.pre6 enc Try.prog Try.f5 Rows.tableGoodRow.domain false) (Rows.tableGoodSpec.post enc Try.prog Try.f5 false true false false) := by
  refine returnsInHanded_of_change (C := Try.checked) own started (by kernel_rfl) Try.func5
    (ChangeSpec.witness6 (enc := enc) (C := Try.checked) false ⟨#[], #[.slice none 0 0, .int .i64 0, .int .i64 0], []⟩ 8 (by kernel_rfl) (by kernel_rfl) (by kernel_rfl) (by kernel_rfl)) ?_
  intro W base args ds gs before hval0 hW hcnd _
  have hval : ∀ (j : Nat) t v, Try.f5.params[j]? = some t → args[j]? = some v → Value.okWide Try.prog W .any base t v := hval0
  have hW' := hW
  obtain ⟨p, q, hA0, hV, rfl, hfz, hnd⟩ := hW
  have hA : DataW.TrodAll enc Try.prog W 0 (fun _ => true) true Try.f5.params.toList args.toList ds p := hA0
  rw [Try.params5] at hA hval
  obtain ⟨v0, vs0, d0, ds0, p0, q0, hargs, rfl, rfl, h0, r0⟩ := trodAll_cons hA
  obtain ⟨v1, vs1, d1, ds1, p1, q1, rfl, rfl, rfl, h1, r1⟩ := trodAll_cons r0
  obtain ⟨v2, vs2, d2, ds2, p2, q2, rfl, rfl, rfl, h2, r2⟩ := trodAll_cons r1
  obtain ⟨rfl, rfl, rfl⟩ := trodAll_nil r2
  obtain rfl : args = #[v0, v1, v2] := by cases args; simp_all
  obtain ⟨rfl, rfl⟩ := trodVars_none hV
  obtain ⟨a0', len0', cap0', rfl⟩ := okWide_slice Try.underlying50 (hval 0 50 v0 rfl rfl)
  have k0 := h0
  have lt0 : ∀ x ∈ p0, x.block < W.heap.size := by obtain ⟨m, hm⟩ := k0; exact DataW.trod_lt m _ _ _ hm
  obtain ⟨a0, cap0, l0, w0, e1, e2, e3⟩ : ∃ a cap, ∃ l : Tb, (TbAt W W.heap.size a l ∧ l.length ≤ maxLen ∧ ∀ r ∈ l, r.length ≤ maxLen) ∧ a0' = a ∧ len0' = l.length ∧ cap0' = cap := by
    obtain ⟨fuel, hf⟩ := h0
    obtain ⟨a, cap, l, hcs, q⟩ := open_table hf
    simp [Value.cells] at hcs
    obtain ⟨rfl, rfl, rfl⟩ := hcs
    exact ⟨_, _, l, q, rfl, rfl, rfl⟩
  subst e1 e2 e3
  obtain ⟨a1, rfl, rfl, rfl, w1⟩ := open_int Try.underlying3 (hval 1 3 v1 rfl rfl) h1
  obtain ⟨a2, rfl, rfl, rfl, w2⟩ := open_int Try.underlying3 (hval 2 3 v2 rfl rfl) h2
  clear hA0 hval0
  refine (walkTableGood a0' cap0' l0 a1 a2 W w0 w1 w2).mono fun e W' ⟨he, bel⟩ => ?_
  subst he
  exact ⟨_, rfl, _, _, _, [], _, [], hW', trodAll_mk1 (shut_bool Try.underlying4 _), (trodAll_cons_mk (Below.trod laidOut (by kernel_rfl) (of_decide_eq_true (by kernel_rfl)) k0 bel lt0) (trodAll_cons_mk (shut_int Try.underlying3 w1) (trodAll_cons_mk (shut_int Try.underlying3 w2) trodAll_mk0))), rfl, bel.frame _, fun h => by cases h⟩

theorem overTableGood : Rows.tableGoodRow.holds Try.pinned (OpenSpec.ofChange Rows.tableGoodSpec) :=
  OpenClaim.holds_of_wide 5 Try.f5 rfl rfl rfl rfl rfl rfl rfl ⟨rfl, rfl, rfl, rfl, rfl⟩ rfl rfl rfl rfl rfl (by kernel_rfl) Try.func5 (by kernel_rfl)
    (of_decide_eq_true (by kernel_rfl)) (by unfold Func.isWrapper; first | (rw [if_pos (by decide +kernel)]; kernel_rfl) | (rw [if_neg (by decide +kernel)]; exact ⟨rfl, rfl⟩))
    (fun os started H enc _ => liftedTableGood os started H enc)

/-- The statement. -/
theorem tableGood_holds : Rows.TableGoodSaid := overTableGood

#print axioms tableGood_holds
end Go.Proofs.Ytkdnngcmiggoeaa
