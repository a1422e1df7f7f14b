/- The registrar's and the applicant's tables are those of the document, cell by cell; they can be (P13.1). No condition. -/
import Derived.Test.YtkdnngcmiggoeaaJdoc
namespace Go.Proofs.Ytkdnngcmiggoeaa
open Go.ChangeShapes Go.WideShapes Go.ChangeAt Go.RowKit
set_option maxRecDepth 100000

set_option maxHeartbeats 1000000 in
theorem eql_ce (u0 u1 : Int) (w : World) : (binOp .eql 56 (.agg #[.int .i64 u0, .int .i64 u1]) (.agg #[.int .i64 u0, .int .i64 u1])).run Try.prog w = .ok (.bool true) w := by
  go_simp
theorem neq_ce_same (u0 u1 : Int) (w : World) : (binOp .neq 56 (.agg #[.int .i64 u0, .int .i64 u1]) (.agg #[.int .i64 u0, .int .i64 u1])).run Try.prog w = .ok (.bool false) w := by
  rw [neq_ce]; simp
set_option maxHeartbeats 8000000 in
theorem walkTableIs (b : Bool) (s e : Int) (w : World) (_hs : (Lit.int .i64 s).wf = true) (_he : (Lit.int .i64 e).wf = true) :
    Calls Try.prog 4 #[.bool b, .int .i64 s, .int .i64 e] w fun r w' => r = .returned (.bool true) ∧ Below w.heap.size w w' := by
  obtain ⟨t, ht⟩ : ∃ t, docT b = t := ⟨_, rfl⟩
  obtain ⟨n, hn⟩ : ∃ n, docN b = n := ⟨_, rfl⟩
  obtain ⟨k, hk⟩ : ∃ k, docK b = k := ⟨_, rfl⟩
  have n5 : n ≤ 5 := by rw [← hn]; cases b <;> decide
  have k6 : k ≤ 6 := by rw [← hk]; cases b <;> decide
  have hlen : t.length = n := by rw [← ht, ← hn]; exact doc_len b
  have hrow : ∀ x, x < n → (t.getD x []).length = k := by rw [← ht, ← hn, ← hk]; exact fun x h => doc_row h
  have hmax : ∀ r ∈ t, r.length ≤ maxLen := by rw [← ht]; intro r hr; obtain ⟨i, hi, rfl⟩ := List.mem_iff_getElem.1 hr; have := doc_row (b := b) (s := i) (by rw [← doc_len]; exact hi); rw [List.getD_eq_getElem?_getD, List.getElem?_eq_getElem hi] at this; simp only [Option.getD_some] at this; rw [this]; cases b <;> decide
  have hgood := doc_good b
  have HS := Lib.hid (states_any b)
  have HK := Lib.hid (events_any b)
  have HO := Lib.hid (one_any b)
  have HX := Lib.hid (fun s e hs he => next_any b s e hs he)
  have HA := Lib.hid (fun s e hs he => act_any b s e hs he)
  rw [ht] at hgood HO HX HA
  rw [hn] at HS HO HX HA
  rw [hk] at HK HX HA
  have HT := Lib.hid (And.intro hlen (And.intro hrow (And.intro hmax hgood)))
  clear ht hn hk hlen hrow hmax hgood
  go_enter Try.func4, Try.ntmps4
  go_wp2_with fail
  refine (alive13_any w).mono ?_
  rintro r w1 ⟨rfl, b1⟩
  go_wp2_with fail
  refine (HO.out w1).mono ?_
  rintro r w2 ⟨A, rfl, hT, b2⟩
  have hT2 := Lib.hid hT
  have HB2 := Lib.hid (b1.trans (b2.mono b1.size))
  clear hT b1 b2
  go_wp2_with fail
  refine (HS.out w2).mono ?_
  rintro r w' ⟨rfl, rfl⟩
  go_wp2_with fail
  refine (HK.out w2).mono ?_
  rintro r w' ⟨rfl, rfl⟩
  have HGD := Lib.hid (show Calls Try.prog 22 #[.slice A n n] w2 fun e w' => e = .returned (.bool true) ∧ Below w2.heap.size w2 w' by
    have := good13_any w2 A n t hT2.out (by rw [HT.out.1]; exact Nat.le_trans n5 (by decide)) HT.out.2.2.1
    rw [HT.out.1, HT.out.2.2.2] at this
    exact this)
  go_wp2_with fail
  refine HGD.out.mono ?_
  rintro r w3 ⟨rfl, b3⟩
  have hT3 := Lib.hid (hT2.out.go b3)
  have HB3 := Lib.hid (HB2.out.trans (b3.mono HB2.out.size))
  clear b3
  go_wp2_with fail
  go_loopw [10] (fun iv wr => ∃ j : Nat, j ≤ n ∧ iv = .int .i64 j ∧ Hid (Below w3.heap.size w3 wr)) (fun iv _ => n - (intOf iv).toNat)
  case atStart => exact ⟨0, Nat.zero_le _, rfl, Lib.hid (Below.refl _ _)⟩
  case round =>
    obtain ⟨j, hj, rfl, hB⟩ := hrel
    by_cases hlt : j < n
    · have j1 : (j : Int) < n := by omega
      have j0 : (0 : Int) ≤ j := by omega
      have HJ := Lib.hid (show wrap64 ((j : Int) + 1) = (j : Int) + 1 from IntWalk.wrap64_in _ (by omega))
      obtain ⟨bb, off, a, cc, rfl, hbl, p, hcr⟩ := hT3.out j (by rw [HT.out.1]; exact hlt)
      rw [HT.out.2.1 j hlt] at p
      have q := (hB.out.cell (p := ⟨bb, off + j, none⟩) hbl).trans p
      have HP := Lib.hid (And.intro hbl (And.intro p hcr))
      clear hbl p hcr
      go_wp2_with fail
      go_loopw [11] (fun iv wr => ∃ i : Nat, i ≤ k ∧ iv = .int .i64 i ∧ Hid (Below w3.heap.size w3 wr)) (fun iv _ => k - (intOf iv).toNat)
      case atStart => exact ⟨0, Nat.zero_le _, rfl, hB⟩
      case round =>
        obtain ⟨i, hi, rfl, hB2⟩ := hrel
        by_cases hik : i < k
        · have i1 : (i : Int) < k := by omega
          have i0 : (0 : Int) ≤ i := by omega
          have HI := Lib.hid (show wrap64 ((i : Int) + 1) = (i : Int) + 1 from IntWalk.wrap64_in _ (by omega))
          obtain ⟨gg, og, eg, hgl, pg0, pg1⟩ := HP.out.2.2 i (by rw [HT.out.2.1 j hlt]; exact hik)
          subst eg
          have NX := HX.out j i hlt hik
          have AX := HA.out j i hlt hik
          obtain ⟨x, hx⟩ : ∃ x, (t.getD j []).getD i ce0 = x := ⟨_, rfl⟩
          rw [hx] at pg0 pg1 NX AX
          obtain ⟨x0, x1⟩ := x
          have qr := (hB2.out.cell (p := ⟨bb, off + j, none⟩) HP.out.1).trans HP.out.2.1
          have q0 := (hB2.out.cell (p := ⟨gg, og + i * 2, none⟩) hgl).trans pg0
          have q1 := (hB2.out.cell (p := ⟨gg, og + i * 2 + 1, none⟩) hgl).trans pg1
          have NQ := Lib.hid (show ∀ w0, Calls Try.prog 23 #[.bool b, .int .i64 j, .int .i64 i] w0 fun r w' => r = .returned (.int .i64 x0) ∧ w' = w0 from fun w0 => (NX w0).mono fun _ _ h => ⟨h.1, h.2.symm⟩)
          have AQ := Lib.hid (show ∀ w0, Calls Try.prog 24 #[.bool b, .int .i64 j, .int .i64 i] w0 fun r w' => r = .returned (.int .i64 x1) ∧ w' = w0 from fun w0 => (AX w0).mono fun _ _ h => ⟨h.1, h.2.symm⟩)
          have HNE := neq_ce_same x0 x1
          have HB2 := hB2
          clear NX AX hx hgl pg0 pg1
          go_wp2_with fail
          go_quiet (first | (go_at_call 23; exact Calls.quiet_of_same (NQ.out _)) | (go_at_call 24; exact Calls.quiet_of_same (AQ.out _)))
          go_wp2_with fail
          go_roundw
          case rel =>
            try rw [HI.out]
            exact ⟨i + 1, hik, by rw [Int.natCast_add]; rfl, Lib.hid (bel_drewN HB2.out _)⟩
          case measure =>
            try rw [HI.out]
            show k - ((i : Int) + 1).toNat < k - (i : Int).toNat
            omega
        · have hik2 : i = k := by omega
          subst hik2
          go_wp2_with fail
          go_roundw
          case rel =>
            try rw [HJ.out]
            exact ⟨j + 1, hlt, by rw [Int.natCast_add]; rfl, hB2⟩
          case measure =>
            try rw [HJ.out]
            show n - ((j : Int) + 1).toNat < n - (j : Int).toNat
            omega
    · have hjn : j = n := by omega
      subst hjn
      have hatv := at_any A j t s e wr (hT3.out.keep (hB.out) hB.out.size)
      rw [HT.out.1] at hatv
      have HAT := Lib.hid hatv
      clear hatv
      by_cases hin : 0 ≤ s ∧ s < (j : Int) ∧ 0 ≤ e ∧ e < (k : Int)
      · obtain ⟨s0, s1, e0, e1⟩ := hin
        obtain ⟨a, rfl⟩ : ∃ a : Nat, s = a := ⟨s.toNat, by omega⟩
        obtain ⟨i, rfl⟩ : ∃ i : Nat, e = i := ⟨e.toNat, by omega⟩
        have haj : a < j := by omega
        have hik : i < k := by omega
        obtain ⟨bb, off, aa, cc, rfl, hbl, p, hcr⟩ := hT3.out a (by rw [HT.out.1]; exact haj)
        rw [HT.out.2.1 a haj] at p
        obtain ⟨gg, og, eg, hgl, pg0, pg1⟩ := hcr i (by rw [HT.out.2.1 a haj]; exact hik)
        subst eg
        obtain ⟨x, hx⟩ : ∃ x, (t.getD a []).getD i ce0 = x := ⟨_, rfl⟩
        rw [hx] at pg0 pg1
        have hv := HAT.out
        rw [atV_some (c := x) (by unfold cellT; rw [if_pos ⟨by unfold hasB; simp only [Bool.and_eq_true, decide_eq_true_eq, HT.out.1]; omega, e0, by rw [show ((a : Int)).toNat = a from rfl, HT.out.2.1 a haj]; exact e1⟩, show ((a : Int)).toNat = a from rfl, show ((i : Int)).toNat = i from rfl, hx])] at hv
        obtain ⟨x0, x1⟩ := x
        have HV := Lib.hid hv
        have HQ := Lib.hid (And.intro hbl (And.intro p (And.intro hgl (And.intro pg0 pg1))))
        have g1 : ¬ (a : Int) < 0 := by omega
        have g3 : ¬ (a : Int) ≥ (j : Int) := by omega
        have g4 : ¬ (i : Int) < 0 := by omega
        have g5 : ¬ (i : Int) ≥ (k : Int) := by omega
        have HEQ := eql_ce x0 x1
        clear hv hbl p hcr hgl pg0 pg1 hx
        go_wp2_with fail
        refine HV.out.mono ?_
        rintro r w4 ⟨rfl, b4⟩
        have hb4 := hB.out.trans (b4.mono hB.out.size)
        have hb5 := hb4.alloc hb4.size (.cells #[.int .i64 x0, .int .i64 x1] 56)
        have HB5 := Lib.hid (HB3.out.trans (hb5.mono HB3.out.size))
        have y0 := (Blk.new w4 56 #[.int .i64 x0, .int .i64 x1]).cell 0
        have y1 := (Blk.new w4 56 #[.int .i64 x0, .int .i64 x1]).cell 1
        have qr := (hb5.cell (p := ⟨bb, off + a, none⟩) HQ.out.1).trans HQ.out.2.1
        have qg0 := (hb5.cell (p := ⟨gg, og + i * 2, none⟩) HQ.out.2.2.1).trans HQ.out.2.2.2.1
        have qg1 := (hb5.cell (p := ⟨gg, og + i * 2 + 1, none⟩) HQ.out.2.2.1).trans HQ.out.2.2.2.2
        clear b4 hb4 hb5
        go_wp2_with fail
        go_quiet (fail)
        go_wp2_with fail
        go_ret
        exact ⟨rfl, bel_drewN HB5.out _⟩
      · have hv := HAT.out
        rw [atV_none (by unfold cellT hasB; rw [if_neg]; intro h; simp only [Bool.and_eq_true, decide_eq_true_eq, HT.out.1] at h; rw [HT.out.2.1 _ (by omega)] at h; omega)] at hv
        have HV := Lib.hid hv
        have HOR : s < 0 ∨ (0 ≤ s ∧ (j : Int) ≤ s) ∨ (0 ≤ s ∧ s < (j : Int) ∧ e < 0) ∨ (0 ≤ s ∧ s < (j : Int) ∧ 0 ≤ e ∧ (k : Int) ≤ e) := by omega
        clear hv hin
        rcases HOR with h1 | ⟨h1, h2⟩ | ⟨h1, h2, h3⟩ | ⟨h1, h2, h3, h4⟩
        all_goals
          try have g1 : ¬ s < 0 := by omega
          try have g2 : s ≥ (j : Int) := by omega
          try have g3 : ¬ s ≥ (j : Int) := by omega
          try have g4 : ¬ e < 0 := by omega
          try have g5 : e ≥ (k : Int) := by omega
          go_wp2_with fail
          refine HV.out.mono ?_
          rintro r w4 ⟨rfl, b4⟩
          have HB4 := Lib.hid (HB3.out.trans ((hB.out.trans (b4.mono hB.out.size)).mono HB3.out.size))
          have y0 := (Blk.new w4 56 #[.int .i64 s, .int .i64 0]).cell 0
          have y1 := (Blk.new w4 56 #[.int .i64 s, .int .i64 0]).cell 1
          clear b4
          go_wp2_with fail
          go_ret
          exact ⟨rfl, HB4.out.alloc HB4.out.size _⟩
set_option maxRecDepth 100000 in
theorem liftedTableIs (os : Os) (started : os.Started) (H : Type) (enc : TypeId × Value → H) :
    ReturnsInHanded {} Try.checked os 4 .any (Rows.tableIsSpec.pre6 enc Try.prog Try.f4 Rows.tableIsRow.domain false) (Rows.tableIsSpec.post enc Try.prog Try.f4 false true false false) := by
  refine returnsInHanded_of_change (C := Try.checked) own started (by kernel_rfl) Try.func4
    (ChangeSpec.witness6 (enc := enc) (C := Try.checked) false ⟨#[], #[.bool false, .int .i64 0, .int .i64 0], []⟩ 8 (by kernel_rfl) (by kernel_rfl) (by kernel_rfl) (by kernel_rfl)) ?_
  intro W base args ds gs before hval0 hW hcnd _
  have hval : ∀ (j : Nat) t v, Try.f4.params[j]? = some t → args[j]? = some v → Value.okWide Try.prog W .any base t v := hval0
  have hW' := hW
  obtain ⟨p, q, hA0, hV, rfl, hfz, hnd⟩ := hW
  have hA : DataW.TrodAll enc Try.prog W 0 (fun _ => true) true Try.f4.params.toList args.toList ds p := hA0
  rw [Try.params4] at hA hval
  obtain ⟨v0, vs0, d0, ds0, p0, q0, hargs, rfl, rfl, h0, r0⟩ := trodAll_cons hA
  obtain ⟨v1, vs1, d1, ds1, p1, q1, rfl, rfl, rfl, h1, r1⟩ := trodAll_cons r0
  obtain ⟨v2, vs2, d2, ds2, p2, q2, rfl, rfl, rfl, h2, r2⟩ := trodAll_cons r1
  obtain ⟨rfl, rfl, rfl⟩ := trodAll_nil r2
  obtain rfl : args = #[v0, v1, v2] := by cases args; simp_all
  obtain ⟨rfl, rfl⟩ := trodVars_none hV
  obtain ⟨a0, rfl, rfl, rfl⟩ := open_bool Try.underlying4 (hval 0 4 v0 rfl rfl) h0
  obtain ⟨a1, rfl, rfl, rfl, w1⟩ := open_int Try.underlying3 (hval 1 3 v1 rfl rfl) h1
  obtain ⟨a2, rfl, rfl, rfl, w2⟩ := open_int Try.underlying3 (hval 2 3 v2 rfl rfl) h2
  clear hA0 hval0
  refine (walkTableIs a0 a1 a2 W w1 w2).mono fun e W' ⟨he, bel⟩ => ?_
  subst he
  exact ⟨_, rfl, _, _, _, [], _, [], hW', trodAll_mk1 (shut_bool Try.underlying4 _), (trodAll_cons_mk (shut_bool Try.underlying4 a0) (trodAll_cons_mk (shut_int Try.underlying3 w1) (trodAll_cons_mk (shut_int Try.underlying3 w2) trodAll_mk0))), rfl, bel.frame _, fun h => by cases h⟩

theorem overTableIs : Rows.tableIsRow.holds Try.pinned (OpenSpec.ofChange Rows.tableIsSpec) :=
  OpenClaim.holds_of_wide 4 Try.f4 rfl rfl rfl rfl rfl rfl rfl ⟨rfl, rfl, rfl, rfl, rfl⟩ rfl rfl rfl rfl rfl (by kernel_rfl) Try.func4 (by kernel_rfl)
    (of_decide_eq_true (by kernel_rfl)) (by unfold Func.isWrapper; first | (rw [if_pos (by decide +kernel)]; kernel_rfl) | (rw [if_neg (by decide +kernel)]; exact ⟨rfl, rfl⟩))
    (fun os started H enc _ => liftedTableIs os started H enc)

/-- The statement. -/
theorem tableIs_holds : Rows.TableIsSaid := overTableIs

#print axioms tableIs_holds
end Go.Proofs.Ytkdnngcmiggoeaa
