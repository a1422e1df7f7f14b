/- AppliSays: what is to be said is said within two chances, and again behind each All and Again, as the word that was wanted last; what is to be said no more is left within one, and then nothing is said. No condition. -/
import Derived.Test.YtnifdbhihbjeaaaApAlive
import Derived.Test.YtnifdbhihbjeaaaApSteps
import Derived.Test.YtnifdbhihbjeaaaFrame
import Derived.IntWalk
namespace Go.Proofs.Ytnifdbhihbjeaaa
open Go.ChangeShapes Go.WideShapes Go.ChangeAt Go.RowKit
set_option maxRecDepth 100000

/-- Two chances behind a word that is wanted: said, and nothing more to say. -/
theorem says_two {r : Ap} (hs : S5 r.state) {b : Int} (hb : 0 ≤ b) : stepA (stepA (wantA r b false) 4) 4 = ⟨3, b⟩ := by
  obtain ⟨s, c⟩ := r
  unfold S5 at hs
  simp only at hs
  unfold wantA
  rw [if_neg (Int.not_lt.2 hb)]
  rcases hs with rfl | rfl | rfl | rfl | rfl <;> rfl
/-- The first of them, where nothing was said before. -/
theorem says_one {r : Ap} (hs : S5 r.state) {b : Int} (hb : 0 ≤ b) (h : speaksA r = false) : (actA (wantA r b false) 4 = 1 ∨ actA (wantA r b false) 4 = 2) ∧ (wantA r b false).born = b := by
  obtain ⟨s, c⟩ := r
  unfold S5 at hs
  simp only at hs
  unfold wantA
  rw [if_neg (Int.not_lt.2 hb)]
  rcases hs with rfl | rfl | rfl | rfl | rfl
  · exact ⟨.inl rfl, rfl⟩
  · exact absurd (show true = false from h) (by decide)
  · exact absurd (show true = false from h) (by decide)
  · exact absurd (show true = false from h) (by decide)
  · exact ⟨.inr rfl, rfl⟩
set_option maxHeartbeats 8000000 in
theorem walkAppliSays (A : Option Addr) (c : Nat) (l : List St) (born : Int) (w : World) (hl : StAt w w.heap.size A l ∧ l.length ≤ maxLen) (_hb : (Lit.int .i64 born).wf = true) :
    Calls Try.prog 4 #[.slice A l.length c, .int .i64 born] w fun e w' => e = .returned (.bool true) ∧ Below w.heap.size w w' := by
  have HAL := Lib.hid (aalive_any w)
  have HL := Lib.hid hl
  obtain ⟨n, hn⟩ : ∃ n, l.length = n := ⟨_, rfl⟩
  rw [hn]
  have HN := Lib.hid hn
  have n0 : (0 : Int) ≤ n := by omega
  clear hl hn _hb
  go_enter Try.func4, Try.ntmps4
  go_wp2_with fail
  refine HAL.out.mono ?_
  rintro e w1 ⟨rfl, b1⟩
  by_cases q0 : 100 < (n : Int)
  · go_wp2_with fail
    go_ret
    exact ⟨rfl, b1⟩
  have e0 : decide (100 < (n : Int)) = false := decide_eq_false q0
  by_cases qb : born < 0
  · clear q0
    go_wp2_with fail
    go_ret
    exact ⟨rfl, b1⟩
  have eb : decide (born < 0) = false := decide_eq_false qb
  have HNN := Lib.hid (show n ≤ 100 by omega)
  have HBO := Lib.hid (show 0 ≤ born by omega)
  have HS0 := Lib.hid (OwnA.new b1)
  clear q0 qb b1
  go_wp2_with fail
  obtain ⟨g, hg⟩ : ∃ g, w1.heap.size = g := ⟨_, rfl⟩
  rw [hg] at HS0 ⊢
  clear hg
  go_loopw [28] (fun iv wr => ∃ (j : Nat) (r : Ap), j ≤ n ∧ iv = .int .i64 j ∧ Hid (OwnA w wr g r)) (fun iv _ => n - (intOf iv).toNat)
  case atStart => exact ⟨0, _, Nat.zero_le _, rfl, Lib.hid HS0.out⟩
  case round =>
    obtain ⟨j, r, hj, rfl, hS⟩ := hrel
    by_cases hlt : j < n
    rotate_left
    · have HP := Lib.hid (aspeaks_any hS.out.at_ hS.out.ok)
      have HT := Lib.hid (says_two hS.out.ok HBO.out)
      have HO := Lib.hid (fun h => says_one hS.out.ok HBO.out h)
      obtain ⟨sp, hsp⟩ : ∃ sp, speaksA r = sp := ⟨_, rfl⟩
      rw [hsp] at HP HO
      clear hsp
      go_wp2_with (go_at_call 16; (with_reducible (refine HP.out.mono ?_)); rintro e w2 ⟨rfl, rfl⟩)
      refine (own_want hS.out born false).mono ?_
      rintro e w3 ⟨rfl, h3, _⟩
      obtain ⟨r1, hr1⟩ : ∃ r1, wantA r born false = r1 := ⟨_, rfl⟩
      rw [hr1] at h3 HT HO
      have H3 := Lib.hid h3
      clear h3 hr1
      go_wp2_with fail
      refine (own_say H3.out).mono ?_
      rintro e w4 ⟨rfl, h4, _⟩
      have H4 := Lib.hid h4
      clear h4
      obtain ⟨is, his⟩ : ∃ is, decide (actA r1 4 ≠ 0) = is := ⟨_, rfl⟩
      obtain ⟨x, hx⟩ : ∃ x, sayE (actA r1 4) = x := ⟨_, rfl⟩
      obtain ⟨y, hy⟩ : ∃ y, sayB (actA r1 4) r1.born = y := ⟨_, rfl⟩
      rw [his, hx, hy]
      have HV := Lib.hid (show sp = false → is = true ∧ y = born ∧ (x = 0 ∨ x = 1) by
        intro h
        obtain ⟨h1, h2⟩ := HO.out h
        rw [h2] at hy
        rcases h1 with h1 | h1 <;> rw [h1] at his hx hy
        · exact ⟨his.symm, hy.symm, .inl hx.symm⟩
        · exact ⟨his.symm, hy.symm, .inr hx.symm⟩)
      clear his hx hy
      have hv : sp = true ∨ (sp = false ∧ is = true ∧ born = y ∧ x = 0) ∨ (sp = false ∧ is = true ∧ born = y ∧ x = 1) := by
        cases sp with
        | true => exact .inl rfl
        | false =>
          obtain ⟨h1, h2, h3 | h3⟩ := HV.out rfl
          · exact .inr (.inl ⟨rfl, h1, h2.symm, h3⟩)
          · exact .inr (.inr ⟨rfl, h1, h2.symm, h3⟩)
      have enb : (born != born) = false := by simp
      clear HV
      rcases hv with rfl | ⟨rfl, rfl, rfl, rfl⟩ | ⟨rfl, rfl, rfl, rfl⟩
      all_goals
        go_wp2_with fail
        refine (own_say H4.out).mono ?_
        rintro e w5 ⟨rfl, h5, _⟩
        rw [HT.out] at h5
        have H5 := Lib.hid h5
        clear h5
        go_wp2_with fail
        go_loopw [87] (fun iv wr => ∃ (j : Nat), j ≤ 3 ∧ iv = .int .i64 j ∧ Hid (OwnA w wr g ⟨3, born⟩)) (fun iv _ => 3 - (intOf iv).toNat)
        case atStart => exact ⟨0, Nat.zero_le _, rfl, Lib.hid H5.out⟩
        case round =>
          obtain ⟨i, hi, rfl, hR⟩ := hrel
          by_cases hi3 : i < 3
          · have i1 : (i : Int) < 3 := by omega
            have i0 : (0 : Int) ≤ i := by omega
            have HJ := Lib.hid (show wrap64 ((i : Int) + 1) = (i : Int) + 1 from IntWalk.wrap64_in _ (by omega))
            go_wp2_with fail
            refine (own_again hR.out).mono ?_
            rintro e w6 ⟨rfl, h6, _⟩
            rw [show stepA ⟨3, born⟩ 3 = ⟨2, born⟩ from rfl] at h6
            have H6 := Lib.hid h6
            clear h6
            go_wp2_with fail
            refine (own_say H6.out).mono ?_
            rintro e w7 ⟨rfl, h7, _⟩
            rw [show stepA ⟨2, born⟩ 4 = ⟨3, born⟩ from rfl] at h7
            rw [show sayE (actA ⟨2, born⟩ 4) = 1 from rfl, show sayB (actA ⟨2, born⟩ 4) (Ap.born ⟨2, born⟩) = born from rfl, show decide (actA ⟨2, born⟩ 4 ≠ 0) = true from rfl]
            have H7 := Lib.hid h7
            clear h7
            go_wp2_with fail
            refine (own_all H7.out).mono ?_
            rintro e w8 ⟨rfl, h8, _⟩
            rw [show stepA ⟨3, born⟩ 2 = ⟨2, born⟩ from rfl] at h8
            have H8 := Lib.hid h8
            clear h8
            go_wp2_with fail
            refine (own_say H8.out).mono ?_
            rintro e w9 ⟨rfl, h9, _⟩
            rw [show stepA ⟨2, born⟩ 4 = ⟨3, born⟩ from rfl] at h9
            rw [show sayE (actA ⟨2, born⟩ 4) = 1 from rfl, show sayB (actA ⟨2, born⟩ 4) (Ap.born ⟨2, born⟩) = born from rfl, show decide (actA ⟨2, born⟩ 4 ≠ 0) = true from rfl]
            have HPE := Lib.hid (show Calls Try.prog 18 #[.pointer (some ⟨g, 0, none⟩)] w9 fun e w' => e = .returned (.bool false) ∧ w9 = w' from apend_any h9.at_ h9.ok)
            have H9 := Lib.hid h9
            clear h9
            go_wp2_with (go_at_call 18; (with_reducible (refine HPE.out.mono ?_)); rintro e w' ⟨rfl, rfl⟩)
            go_roundw
            case rel =>
              try rw [HJ.out]
              exact ⟨i + 1, hi3, by rw [Int.natCast_add]; rfl, Lib.hid H9.out⟩
            case measure =>
              try rw [HJ.out]
              show 3 - ((i : Int) + 1).toNat < 3 - ((i : Int)).toNat
              omega
          · obtain rfl : i = 3 := by omega
            go_wp2_with fail
            refine (own_want hR.out (-1) false).mono ?_
            rintro e w6 ⟨rfl, h6, _⟩
            rw [show wantA ⟨3, born⟩ (-1) false = ⟨4, born⟩ from rfl] at h6
            have H6 := Lib.hid h6
            clear h6
            go_wp2_with fail
            refine (own_say H6.out).mono ?_
            rintro e w7 ⟨rfl, h7, _⟩
            rw [show stepA ⟨4, born⟩ 4 = ⟨0, born⟩ from rfl] at h7
            rw [show sayE (actA ⟨4, born⟩ 4) = 5 from rfl, show decide (actA ⟨4, born⟩ 4 ≠ 0) = true from rfl]
            have H7 := Lib.hid h7
            clear h7
            go_wp2_with fail
            refine (own_say H7.out).mono ?_
            rintro e w8 ⟨rfl, h8, _⟩
            rw [show stepA ⟨0, born⟩ 4 = ⟨0, born⟩ from rfl] at h8
            rw [show decide (actA ⟨0, born⟩ 4 ≠ 0) = false from rfl]
            have HID := Lib.hid (show Calls Try.prog 19 #[.pointer (some ⟨g, 0, none⟩)] w8 fun e w' => e = .returned (.bool true) ∧ w8 = w' from aidle_any h8.at_)
            have H8 := Lib.hid h8.bel
            clear h8
            go_wp2_with (go_at_call 19; (with_reducible (refine HID.out.mono ?_)); rintro e w' ⟨rfl, rfl⟩)
            go_ret
            exact ⟨rfl, H8.out⟩
    have j1 : (j : Int) < n := by omega
    have j0 : (0 : Int) ≤ j := by omega
    have HJ := Lib.hid (show wrap64 ((j : Int) + 1) = (j : Int) + 1 from IntWalk.wrap64_in _ (by have := HNN.out; omega))
    obtain ⟨b, off, rfl, hbl, hc⟩ := HL.out.1 j (by rw [HN.out]; exact hlt)
    have hc := hc.below hS.out.bel hbl
    obtain ⟨x, hx⟩ : ∃ x, l.getD j st0 = x := ⟨_, rfl⟩
    rw [hx] at hc
    obtain ⟨k0, k1, k2⟩ := x
    obtain ⟨c0, c1, c2⟩ := hc
    obtain ⟨W, hW⟩ : ∃ W, wr.alloc (.cells #[.int .i64 k0, .int .i64 k1, .bool k2] 31) = W := ⟨_, rfl⟩
    have hbk : Blk W wr.heap.size 31 #[.int .i64 k0, .int .i64 k1, .bool k2] := by rw [← hW]; exact Blk.new _ _ _
    have hKW : OwnA w W g r := by rw [← hW]; exact hS.out.alloc _
    have HW := Lib.hid hKW
    have s0 : W.cell? ⟨wr.heap.size, 0, none⟩ = some (.int .i64 k0) := hbk.cell 0
    have s1 : W.cell? ⟨wr.heap.size, 1, none⟩ = some (.int .i64 k1) := hbk.cell 1
    have s2 : W.cell? ⟨wr.heap.size, 2, none⟩ = some (.bool k2) := hbk.cell 2
    have HEND := Lib.hid (fun (V : World) (r' : Ap) (h : OwnA w V g r') => show ∃ (j' : Nat) (r : Ap), j' ≤ n ∧ Value.int .i64 ((j : Int) + 1) = .int .i64 j' ∧ Hid (OwnA w V g r) from
      ⟨j + 1, r', hlt, by rw [Int.natCast_add]; rfl, Lib.hid h⟩)
    clear hbl hx hj hbk hKW
    by_cases d0 : k0 = 0
    · subst d0
      go_wp2_with fail
      refine (own_want HW.out k1 k2).mono ?_
      rintro e w5 ⟨rfl, h5, _⟩
      have HE := Lib.hid h5
      clear h5 c0 c1 c2
      go_wp2_with fail
      go_roundw
      case rel =>
        rw [HJ.out]
        exact HEND.out _ _ HE.out
      case measure =>
        rw [HJ.out]
        show n - ((j : Int) + 1).toNat < n - ((j : Int)).toNat
        omega
    by_cases d1 : k0 = 1
    · subst d1
      clear d0
      go_wp2_with fail
      refine (own_all HW.out).mono ?_
      rintro e w5 ⟨rfl, h5, _⟩
      have HE := Lib.hid h5
      clear h5 c0 c1 c2
      go_wp2_with fail
      go_roundw
      case rel =>
        rw [HJ.out]
        exact HEND.out _ _ HE.out
      case measure =>
        rw [HJ.out]
        show n - ((j : Int) + 1).toNat < n - ((j : Int)).toNat
        omega
    by_cases d2 : k0 = 2
    · subst d2
      clear d0 d1
      go_wp2_with fail
      refine (own_again HW.out).mono ?_
      rintro e w5 ⟨rfl, h5, _⟩
      have HE := Lib.hid h5
      clear h5 c0 c1 c2
      go_wp2_with fail
      go_roundw
      case rel =>
        rw [HJ.out]
        exact HEND.out _ _ HE.out
      case measure =>
        rw [HJ.out]
        show n - ((j : Int) + 1).toNat < n - ((j : Int)).toNat
        omega
    by_cases d3 : k0 = 3
    · subst d3
      clear d0 d1 d2
      go_wp2_with fail
      refine (own_say HW.out).mono ?_
      rintro e w5 ⟨rfl, h5, _⟩
      have HE := Lib.hid h5
      clear h5 c0 c1 c2
      go_wp2_with fail
      go_roundw
      case rel =>
        rw [HJ.out]
        exact HEND.out _ _ HE.out
      case measure =>
        rw [HJ.out]
        show n - ((j : Int) + 1).toNat < n - ((j : Int)).toNat
        omega
    have f0 : (k0 == 0) = false := by simpa using d0
    have f1 : (k0 == 1) = false := by simpa using d1
    have f2 : (k0 == 2) = false := by simpa using d2
    have f3 : (k0 == 3) = false := by simpa using d3
    have HE := Lib.hid HW.out
    clear d0 d1 d2 d3 s1 s2
    go_wp2_with fail
    go_roundw
    case rel =>
      rw [HJ.out]
      exact HEND.out _ _ HE.out
    case measure =>
      rw [HJ.out]
      show n - ((j : Int) + 1).toNat < n - ((j : Int)).toNat
      omega

set_option maxRecDepth 100000 in
theorem liftedAppliSays (os : Os) (started : os.Started) (H : Type) (enc : TypeId × Value → H) :
    ReturnsInHanded {} Try.checked os 4 .any (Rows.appliSaysSpec.pre6 enc Try.prog Try.f4 Rows.appliSaysRow.domain false) (Rows.appliSaysSpec.post enc Try.prog Try.f4 false true false false) := by
  refine returnsInHanded_of_change (C := Try.checked) own started (by kernel_rfl) Try.func4
    (ChangeSpec.witness6 (enc := enc) (C := Try.checked) false ⟨#[], #[.slice none 0 0, .int .i64 0], []⟩ 8 (by kernel_rfl) (by kernel_rfl) (by kernel_rfl) (by kernel_rfl)) ?_
  intro W base args ds gs before hval0 hW hcnd _
  have hval : ∀ (j : Nat) t v, Try.f4.params[j]? = some t → args[j]? = some v → Value.okWide Try.prog W .any base t v := hval0
  have hW' := hW
  obtain ⟨p, q, hA0, hV, rfl, hfz, hnd⟩ := hW
  have hA : DataW.TrodAll enc Try.prog W 0 (fun _ => true) true Try.f4.params.toList args.toList ds p := hA0
  rw [Try.params4] at hA hval
  obtain ⟨v0, vs0, d0, ds0, p0, q0, hargs, rfl, rfl, h0, r0⟩ := trodAll_cons hA
  obtain ⟨v1, vs1, d1, ds1, p1, q1, rfl, rfl, rfl, h1, r1⟩ := trodAll_cons r0
  obtain ⟨rfl, rfl, rfl⟩ := trodAll_nil r1
  obtain rfl : args = #[v0, v1] := by cases args; simp_all
  obtain ⟨rfl, rfl⟩ := trodVars_none hV
  obtain ⟨a0', len0', cap0', rfl⟩ := okWide_slice Try.underlying22 (hval 0 22 v0 rfl rfl)
  have k0 := h0
  have lt0 : ∀ x ∈ p0, x.block < W.heap.size := by obtain ⟨m, hm⟩ := k0; exact DataW.trod_lt m _ _ _ hm
  obtain ⟨a0, cap0, l0, w0, e1, e2, e3⟩ : ∃ a cap, ∃ l : List St, (StAt W W.heap.size a l ∧ l.length ≤ maxLen) ∧ a0' = a ∧ len0' = l.length ∧ cap0' = cap := by
    obtain ⟨fuel, hf⟩ := h0
    obtain ⟨a, cap, l, hcs, q⟩ := open_steps hf
    simp [Value.cells] at hcs
    obtain ⟨rfl, rfl, rfl⟩ := hcs
    exact ⟨_, _, l, q, rfl, rfl, rfl⟩
  subst e1 e2 e3
  obtain ⟨a1, rfl, rfl, rfl, w1⟩ := open_int Try.underlying3 (hval 1 3 v1 rfl rfl) h1
  clear hA0 hval0
  refine (walkAppliSays a0' cap0' l0 a1 W w0 w1).mono fun e W' ⟨he, bel⟩ => ?_
  subst he
  exact ⟨_, rfl, _, _, _, [], _, [], hW', trodAll_mk1 (shut_bool Try.underlying4 _), (trodAll_cons_mk (Below.trod laidOut (by kernel_rfl) (of_decide_eq_true (by kernel_rfl)) k0 bel lt0) (trodAll_cons_mk (shut_int Try.underlying3 w1) trodAll_mk0)), rfl, bel.frame _, fun h => by cases h⟩

theorem overAppliSays : Rows.appliSaysRow.holds Try.pinned (OpenSpec.ofChange Rows.appliSaysSpec) :=
  OpenClaim.holds_of_wide 4 Try.f4 rfl rfl rfl rfl rfl rfl rfl ⟨rfl, rfl, rfl, rfl, rfl⟩ rfl rfl rfl rfl rfl (by kernel_rfl) Try.func4 (by kernel_rfl)
    (of_decide_eq_true (by kernel_rfl)) (by unfold Func.isWrapper; first | (rw [if_pos (by decide +kernel)]; kernel_rfl) | (rw [if_neg (by decide +kernel)]; exact ⟨rfl, rfl⟩))
    (fun os started H enc _ => liftedAppliSays os started H enc)

/-- The statement. -/
theorem appliSays_holds : Rows.AppliSaysSaid := overAppliSays

#print axioms appliSays_holds
end Go.Proofs.Ytnifdbhihbjeaaa
