/- RegisStays: said again within Leave ticks, each time with a new word, it stays registered. No condition. -/
import Derived.Test.YtoiapdcleagepaaRgAlive
import Derived.Test.YtoiapdcleagepaaRgBools
namespace Go.Proofs.Ytoiapdcleagepaa
open Go.ChangeShapes Go.WideShapes Go.ChangeAt Go.RowKit Go.Deep
set_option maxRecDepth 100000

theorem stays_0 : hearR ⟨0, 0, 0, 0⟩ 0 0 0 = ⟨0, 2, 0, 0⟩ := rfl
theorem stays_1 (T L : Int) : hearR ⟨0, 2, T, L⟩ 5 T T = ⟨0, 1, T, T⟩ := rfl
theorem stays_2 (T L : Int) : stepR ⟨0, 2, T, L⟩ 2 T = ⟨0, 1, T, T⟩ := rfl
theorem stays_3 (T q : Int) (h : q < 24) : tickR ⟨0, 1, T, T⟩ (T + q) = ⟨0, 1, T, T⟩ := tickR_C (show ¬ ((1 : Int) = 1 ∧ 24 ≤ T + q - T) by omega) (show ¬ 120 < T + q - T by omega)
theorem stays_4 (T T' : Int) (h0 : 0 ≤ T') (h : T ≤ T') : hearR ⟨0, 1, T, T⟩ 1 T' T' = ⟨0, 2, T', T⟩ := by
  unfold hearR joinR
  rw [if_pos (.inr (.inl rfl)), Int.min_self, if_neg (by omega)]
  show stepR ⟨0, 1, if (1 : Int) = 0 then T' else max T' T, T⟩ 0 T' = _
  rw [if_neg (by decide), Int.max_eq_left h]
  rfl
theorem okR_in (T L : Int) (h : 0 ≤ T) (hL : 0 ≤ L ∧ L ≤ T) : OkR T ⟨0, 2, T, L⟩ := ⟨.inl rfl, .inr (.inr rfl), ⟨h, Int.le_refl _⟩, hL⟩
theorem okR_lv (T : Int) (h : 0 ≤ T) {T' : Int} (hT : T ≤ T') : OkR T' ⟨0, 1, T, T⟩ := ⟨.inl rfl, .inr (.inl rfl), ⟨h, hT⟩, ⟨h, hT⟩⟩
set_option maxHeartbeats 8000000 in
theorem walkRegisStays (A : Option Addr) (n cap : Nat) (zs : List Int) (B : Option Addr) (cb : Nat) (bl : List Bool) (w : World) (h0 : IsRow .i64 w A n cap zs) (h1 : BlAt w w.heap.size B bl ∧ bl.length ≤ maxLen) :
    Calls Try.prog 5 #[.slice A n cap, .slice B bl.length cb] w fun e w' => e = .returned (.bool true) ∧ Below w.heap.size w w' := by
  have HAL := Lib.hid (ralive_any w)
  have H0 := Lib.hid h0
  have H1 := Lib.hid h1
  obtain ⟨nb, hnb⟩ : ∃ nb, bl.length = nb := ⟨_, rfl⟩
  rw [hnb]
  have HNB := Lib.hid hnb
  have n0 : (0 : Int) ≤ n := by omega
  clear h0 h1 hnb
  go_enter Try.func5, Try.ntmps5
  go_wp2_with fail
  refine HAL.out.mono ?_
  rintro e w1 ⟨rfl, b1⟩
  by_cases q0 : 100 < (n : Int)
  · go_wp2_with fail
    go_ret
    exact ⟨rfl, b1⟩
  have e0 : decide (100 < (n : Int)) = false := decide_eq_false q0
  have HN := Lib.hid (show n ≤ 100 by omega)
  have HB1 := Lib.hid b1
  clear q0 b1
  go_wp2_with fail
  refine (rnew_ok 0 rfl _).mono ?_
  rintro e w2 ⟨g, rfl, h2, b2, hg⟩
  have HB2 := Lib.hid (And.intro (HB1.out.trans (b2.mono HB1.out.size)) (Nat.le_trans HB1.out.size hg))
  have H2 := Lib.hid h2
  clear h2 b2 hg
  go_wp2_with fail
  refine (rhear_any H2.out (okR_new rfl (Int.le_refl _)) (tk_lit (Int.le_refl _) (by decide)) 0 0).mono ?_
  rintro e w3 ⟨rfl, h3, t3⟩
  rw [stays_0] at h3
  have HST := Lib.hid (And.intro h3 (below_reg HB2.out.1 t3 HB2.out.2))
  clear h3 t3
  go_wp2_with fail
  go_loopw [7, 23] (fun nv iv wr => ∃ (j : Nat) (T L : Int), j ≤ n ∧ iv = .int .i64 j ∧ nv = .int .i64 T ∧ Hid (RgAt wr g ⟨0, 2, T, L⟩ ∧ Below w.heap.size w wr ∧ (0 ≤ T ∧ T ≤ 24 * j) ∧ (0 ≤ L ∧ L ≤ T))) (fun _ iv _ => n - (intOf iv).toNat)
  case atStart => exact ⟨0, 0, 0, Nat.zero_le _, rfl, rfl, Lib.hid ⟨HST.out.1, HST.out.2, ⟨Int.le_refl _, Int.le_refl _⟩, ⟨Int.le_refl _, Int.le_refl _⟩⟩⟩
  case round =>
    obtain ⟨j, T, L, hj, rfl, rfl, hS⟩ := hrel
    by_cases hlt : j < n
    rotate_left
    · have HH := Lib.hid (rhas_any hS.out.1)
      have HX := Lib.hid (rstate_any hS.out.1)
      rw [show hasR ⟨0, 2, T, L⟩ = true from rfl] at HH
      simp only at HX
      go_wp2_with (first | (go_at_call 14; (with_reducible (refine HH.out.mono ?_)); rintro e w' ⟨rfl, rfl⟩) | (go_at_call 16; (with_reducible (refine HX.out.mono ?_)); rintro e w' ⟨rfl, rfl⟩))
      go_ret
      exact ⟨rfl, hS.out.2.1⟩
    have j1 : (j : Int) < n := by omega
    have j0 : (0 : Int) ≤ j := by omega
    have HJ := Lib.hid (show wrap64 ((j : Int) + 1) = (j : Int) + 1 from IntWalk.wrap64_in _ (by have := HN.out; omega))
    obtain ⟨b, off, rfl, hbl, hc⟩ := H0.out.at_ hlt
    have c0 := (hS.out.2.1.cell (p := ⟨b, off + j, none⟩) hbl).trans hc
    obtain ⟨d, hd⟩ : ∃ d, zs.getD j 0 = d := ⟨_, rfl⟩
    rw [hd] at c0
    clear hc hd hbl
    by_cases q1 : d < 0
    · go_wp2_with fail
      go_ret
      exact ⟨rfl, hS.out.2.1⟩
    have e1 : decide (d < 0) = false := decide_eq_false q1
    by_cases q2 : 24 ≤ d
    · go_wp2_with fail
      go_ret
      exact ⟨rfl, hS.out.2.1⟩
    have e2 : decide (24 ≤ d) = false := decide_eq_false q2
    obtain ⟨k, rfl⟩ : ∃ k : Nat, d = k := ⟨d.toNat, by omega⟩
    have HK := Lib.hid (show k < 24 by omega)
    have k0 : (0 : Int) ≤ k := by omega
    have HTK := Lib.hid (show Tk T from ⟨hS.out.2.2.1.1, by have := hS.out.2.2.1.2; have := HN.out; omega⟩)
    have HOK := Lib.hid (okR_in T L hS.out.2.2.1.1 hS.out.2.2.2)
    have H3 : (¬ (j : Int) < nb) ∨ ((j : Int) < nb ∧ ∃ b' off', B = some ⟨b', off', none⟩ ∧ wr.cell? ⟨b', off' + j, none⟩ = some (.bool true)) ∨ ((j : Int) < nb ∧ ∃ b' off', B = some ⟨b', off', none⟩ ∧ wr.cell? ⟨b', off' + j, none⟩ = some (.bool false)) := by
      by_cases hi : (j : Int) < nb
      · obtain ⟨b', off', e, hb', hc'⟩ := H1.out.1 j (by rw [HNB.out]; omega)
        have hc2 := (hS.out.2.1.cell (p := ⟨b', off' + j, none⟩) hb').trans hc'
        cases hv : bl.getD j false with
        | true => rw [hv] at hc2; exact .inr (.inl ⟨hi, b', off', e, hc2⟩)
        | false => rw [hv] at hc2; exact .inr (.inr ⟨hi, b', off', e, hc2⟩)
      · exact .inl hi
    clear q1 q2
    rcases H3 with hi | ⟨hi, b', off', rfl, c1⟩ | ⟨hi, b', off', rfl, c1⟩
    all_goals go_wp2_with fail
    all_goals first
      | (go_at_call 22; (with_reducible (refine (rall_any hS.out.1 HOK.out).mono ?_)); rintro e w5 ⟨rfl, h5, t5⟩; rw [stays_2] at h5)
      | (go_at_call 11; (with_reducible (refine (rhear_any hS.out.1 HOK.out HTK.out 5 T).mono ?_)); rintro e w5 ⟨rfl, h5, t5⟩; rw [stays_1] at h5)
    all_goals
      have H5 := Lib.hid (And.intro h5 (below_reg hS.out.2.1 t5 HB2.out.2))
      clear h5 t5 hi c0
      go_wp2_with fail
      go_loopw [7, 52] (fun nv iv wq => ∃ (q : Nat) (t : Int), q ≤ k ∧ iv = .int .i64 q ∧ nv = .int .i64 t ∧ Hid (t = T + q ∧ RgAt wq g ⟨0, 1, T, T⟩ ∧ Below w.heap.size w wq)) (fun _ iv _ => k - (intOf iv).toNat)
      case atStart => exact ⟨0, T, Nat.zero_le _, rfl, rfl, Lib.hid ⟨by omega, H5.out⟩⟩
      case round =>
        obtain ⟨q, t, hq, rfl, rfl, hQ⟩ := hrel
        by_cases hlq : q < k
        · have q1 : (q : Int) < k := by omega
          have q0 : (0 : Int) ≤ q := by omega
          have HJQ := Lib.hid (show wrap64 ((q : Int) + 1) = (q : Int) + 1 from IntWalk.wrap64_in _ (by have := HK.out; omega))
          obtain ⟨t2, ht2⟩ : ∃ t2, t + 1 = t2 := ⟨_, rfl⟩
          have HT2 := Lib.hid (show t2 = T + ((q + 1 : Nat) : Int) by have := hQ.out.1; omega)
          have HTK2 := Lib.hid (show Tk t2 from by have h1 := HT2.out; have h2 := HTK.out; have h3 := HK.out; have h4 := hS.out.2.2.1.2; have h5 := HN.out; unfold Tk at h2 ⊢; omega)
          have hw : wrap64 (t + 1) = t2 := by rw [ht2]; exact IntWalk.wrap64_in _ (by have := HTK2.out; unfold Tk at this; omega)
          have HO2 := Lib.hid (okR_lv T HTK.out.1 (show T ≤ t2 by have := HT2.out; omega))
          have HS3 := Lib.hid (show tickR ⟨0, 1, T, T⟩ t2 = ⟨0, 1, T, T⟩ by rw [HT2.out]; exact stays_3 T _ (by have := HK.out; omega))
          have HW2 := Lib.hid hw
          clear ht2 hq
          go_wp2_with fail
          refine (rtick_any hQ.out.2.1 HO2.out HTK2.out).mono ?_
          rintro e w6 ⟨rfl, h6, t6⟩
          rw [HS3.out] at h6
          have HE := Lib.hid (And.intro h6 (below_reg hQ.out.2.2 t6 HB2.out.2))
          have HH := Lib.hid (rhas_any h6)
          rw [show hasR ⟨0, 1, T, T⟩ = true from rfl] at HH
          clear h6 t6 hw
          go_wp2_with (go_at_call 14; (with_reducible (refine HH.out.mono ?_)); rintro e w' ⟨rfl, rfl⟩)
          go_roundw
          case rel =>
            rw [HJQ.out]
            exact ⟨q + 1, t2, hlq, by rw [Int.natCast_add]; rfl, by first | rfl | rw [HW2.out], Lib.hid ⟨HT2.out, HE.out⟩⟩
          case measure =>
            rw [HJQ.out]
            show k - ((q : Int) + 1).toNat < k - ((q : Int)).toNat
            omega
        · obtain rfl : q = k := by omega
          have HT2 := Lib.hid hQ.out.1
          have HTK2 := Lib.hid (show Tk t from by have h1 := HT2.out; have h2 := HTK.out; have h3 := HK.out; have h4 := hS.out.2.2.1.2; have h5 := HN.out; unfold Tk at h2 ⊢; omega)
          have HO2 := Lib.hid (okR_lv T HTK.out.1 (show T ≤ t by have := HT2.out; omega))
          go_wp2_with fail
          refine (rhear_any hQ.out.2.1 HO2.out HTK2.out 1 t).mono ?_
          rintro e w6 ⟨rfl, h6, t6⟩
          rw [stays_4 T t HTK2.out.1 (by have := HT2.out; omega)] at h6
          have HE := Lib.hid (And.intro h6 (below_reg hQ.out.2.2 t6 HB2.out.2))
          clear h6 t6
          go_wp2_with fail
          go_roundw
          case rel =>
            rw [HJ.out]
            exact ⟨j + 1, t, T, hlt, by rw [Int.natCast_add]; rfl, rfl, Lib.hid ⟨HE.out.1, HE.out.2, ⟨HTK2.out.1, by have h1 := HT2.out; have h3 := HK.out; have h4 := hS.out.2.2.1.2; omega⟩, ⟨HTK.out.1, by have := HT2.out; omega⟩⟩⟩
          case measure =>
            rw [HJ.out]
            show n - ((j : Int) + 1).toNat < n - ((j : Int)).toNat
            omega

set_option maxRecDepth 100000 in
theorem liftedRegisStays (os : Os) (started : os.Started) (H : Type) (enc : TypeId × Value → H) :
    ReturnsInHanded {} Try.checked os 5 .any (Rows.regisStaysSpec.pre6 enc Try.prog Try.f5 Rows.regisStaysRow.domain false) (Rows.regisStaysSpec.post enc Try.prog Try.f5 false true false false) := by
  refine returnsInHanded_of_change (C := Try.checked) own started (by kernel_rfl) Try.func5
    (ChangeSpec.witness6 (enc := enc) (C := Try.checked) false ⟨#[], #[.slice none 0 0, .slice none 0 0], []⟩ 8 (by kernel_rfl) (by kernel_rfl) (by kernel_rfl) (by kernel_rfl)) ?_
  intro W base args ds gs before hval0 hW hcnd _
  have hval : ∀ (j : Nat) t v, Try.f5.params[j]? = some t → args[j]? = some v → Value.okWide Try.prog W .any base t v := hval0
  have hW' := hW
  obtain ⟨p, q, hA0, hV, rfl, hfz, hnd⟩ := hW
  have hA : DataW.TrodAll enc Try.prog W 0 (fun _ => true) true Try.f5.params.toList args.toList ds p := hA0
  rw [Try.params5] at hA hval
  obtain ⟨v0, vs0, d0, ds0, p0, q0, hargs, rfl, rfl, h0, r0⟩ := trodAll_cons hA
  obtain ⟨v1, vs1, d1, ds1, p1, q1, rfl, rfl, rfl, h1, r1⟩ := trodAll_cons r0
  obtain ⟨rfl, rfl, rfl⟩ := trodAll_nil r1
  obtain rfl : args = #[v0, v1] := by cases args; simp_all
  obtain ⟨rfl, rfl⟩ := trodVars_none hV
  obtain ⟨a0, len0, cap0, rfl⟩ := okWide_slice Try.underlying43 (hval 0 43 v0 rfl rfl)
  have k0 := h0
  have lt0 : ∀ x ∈ p0, x.block < W.heap.size := by obtain ⟨m, hm⟩ := k0; exact DataW.trod_lt m _ _ _ hm
  obtain ⟨z0, w0⟩ : ∃ zs, IsRow .i64 W a0 len0 cap0 zs := by
    obtain ⟨fuel, hf⟩ := h0
    rcases open_ints Try.underlying43 Try.underlying3 (by kernel_rfl) hf with ⟨hcs, _⟩ | ⟨x, l, c, zs, hcs, _, hl, hm, hz, _, hcell, hwz⟩
    · simp [Value.cells] at hcs
      obtain ⟨rfl, rfl, rfl⟩ := hcs
      exact ⟨[], .inl ⟨rfl, rfl, rfl, rfl⟩⟩
    · simp [Value.cells] at hcs
      obtain ⟨rfl, rfl, rfl⟩ := hcs
      exact ⟨zs, .inr ⟨_, rfl, hl, hm, by simpa using hz, cell_lt hcell (by simpa using hz), hcell, hwz⟩⟩
  obtain ⟨a1', len1', cap1', rfl⟩ := okWide_slice Try.underlying44 (hval 1 44 v1 rfl rfl)
  have k1 := h1
  have lt1 : ∀ x ∈ p1, x.block < W.heap.size := by obtain ⟨m, hm⟩ := k1; exact DataW.trod_lt m _ _ _ hm
  obtain ⟨a1, cap1, l1, w1, e1, e2, e3⟩ : ∃ a cap, ∃ l : List Bool, (BlAt W W.heap.size a l ∧ l.length ≤ maxLen) ∧ a1' = a ∧ len1' = l.length ∧ cap1' = cap := by
    obtain ⟨fuel, hf⟩ := h1
    obtain ⟨a, cap, l, hcs, q⟩ := open_bools hf
    simp [Value.cells] at hcs
    obtain ⟨rfl, rfl, rfl⟩ := hcs
    exact ⟨_, _, l, q, rfl, rfl, rfl⟩
  subst e1 e2 e3
  clear hA0 hval0
  refine (walkRegisStays a0 len0 cap0 z0 a1' cap1' l1 W w0 w1).mono fun e W' ⟨he, bel⟩ => ?_
  subst he
  exact ⟨_, rfl, _, _, _, [], _, [], hW', trodAll_mk1 (shut_bool Try.underlying4 _), (trodAll_cons_mk (Below.trod laidOut (by kernel_rfl) (of_decide_eq_true (by kernel_rfl)) k0 bel lt0) (trodAll_cons_mk (Below.trod laidOut (by kernel_rfl) (of_decide_eq_true (by kernel_rfl)) k1 bel lt1) trodAll_mk0)), rfl, bel.frame _, fun h => by cases h⟩

theorem overRegisStays : Rows.regisStaysRow.holds Try.pinned (OpenSpec.ofChange Rows.regisStaysSpec) :=
  OpenClaim.holds_of_wide 5 Try.f5 rfl rfl rfl rfl rfl rfl rfl ⟨rfl, rfl, rfl, rfl, rfl⟩ rfl rfl rfl rfl rfl (by kernel_rfl) Try.func5 (by kernel_rfl)
    (of_decide_eq_true (by kernel_rfl)) (by unfold Func.isWrapper; first | (rw [if_pos (by decide +kernel)]; kernel_rfl) | (rw [if_neg (by decide +kernel)]; exact ⟨rfl, rfl⟩))
    (fun os started H enc _ => liftedRegisStays os started H enc)

/-- The statement. -/
theorem regisStays_holds : Rows.RegisStaysSaid := overRegisStays

#print axioms regisStays_holds
end Go.Proofs.Ytoiapdcleagepaa
