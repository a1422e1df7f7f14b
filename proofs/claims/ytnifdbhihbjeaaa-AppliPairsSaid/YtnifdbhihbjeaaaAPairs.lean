/- AppliPairs: what an applicant says are pairs: it says something only of a word that was wanted since it said last that it leaves. No condition. -/
import Derived.Test.YtnifdbhihbjeaaaApAlive
import Derived.Test.YtnifdbhihbjeaaaApSteps
import Derived.Test.YtnifdbhihbjeaaaFrame
import Derived.IntWalk
namespace Go.Proofs.Ytnifdbhihbjeaaa
open Go.ChangeShapes Go.WideShapes Go.ChangeAt Go.RowKit
set_option maxRecDepth 100000

theorem pairs_step {r : Ap} (_hs : S5 r.state) {e : Int} (he : e = 1 ∨ e = 2 ∨ e = 3 ∨ e = 4) (h : (stepA r e).state ≠ 0) : r.state ≠ 0 := by
  intro h0
  apply h
  show (cellA r.state e).1 = 0
  rw [h0]
  rcases he with rfl | rfl | rfl | rfl <;> rfl
theorem pairs_low {r : Ap} (hs : S5 r.state) {b : Int} (hb : b < 0) (n : Bool) (h : (wantA r b n).state ≠ 0) : r.state ≠ 0 := by
  unfold wantA at h
  rw [if_pos hb] at h
  exact pairs_step hs (.inl rfl) h
set_option maxHeartbeats 8000000 in
theorem walkAppliPairs (A : Option Addr) (c : Nat) (l : List St) (w : World) (hl : StAt w w.heap.size A l ∧ l.length ≤ maxLen) :
    Calls Try.prog 6 #[.slice A l.length c] w fun e w' => e = .returned (.bool true) ∧ Below w.heap.size w w' := by
  have HAL := Lib.hid (aalive_any w)
  have HL := Lib.hid hl
  obtain ⟨n, hn⟩ : ∃ n, l.length = n := ⟨_, rfl⟩
  rw [hn]
  have HN := Lib.hid hn
  have n0 : (0 : Int) ≤ n := by omega
  clear hl hn
  go_enter Try.func6, Try.ntmps6
  go_wp2_with fail
  refine HAL.out.mono ?_
  rintro e w1 ⟨rfl, b1⟩
  by_cases q0 : 100 < (n : Int)
  · go_wp2_with fail
    go_ret
    exact ⟨rfl, b1⟩
  have e0 : decide (100 < (n : Int)) = false := decide_eq_false q0
  have HNN := Lib.hid (show n ≤ 100 by omega)
  have HS0 := Lib.hid (OwnA.new b1)
  clear q0 b1
  go_wp2_with fail
  obtain ⟨g, hg⟩ : ∃ g, w1.heap.size = g := ⟨_, rfl⟩
  rw [hg] at HS0 ⊢
  clear hg
  go_loopw [4, 5, 20] (fun tv lv iv wr => ∃ (j : Nat) (r : Ap) (wt : Bool) (la : Int), j ≤ n ∧ iv = .int .i64 j ∧ tv = .bool wt ∧ lv = .int .i64 la ∧ Hid (OwnA w wr g r ∧ (r.state ≠ 0 → wt = true))) (fun _ _ iv _ => n - (intOf iv).toNat)
  case atStart => exact ⟨0, _, false, 5, Nat.zero_le _, rfl, rfl, rfl, Lib.hid ⟨HS0.out, fun h => absurd rfl h⟩⟩
  case round =>
    obtain ⟨j, r, wt, la, hj, rfl, rfl, rfl, hS⟩ := hrel
    by_cases hlt : j < n
    rotate_left
    · go_wp2_with fail
      go_ret
      exact ⟨rfl, hS.out.1.bel⟩
    have j1 : (j : Int) < n := by omega
    have j0 : (0 : Int) ≤ j := by omega
    have HJ := Lib.hid (show wrap64 ((j : Int) + 1) = (j : Int) + 1 from IntWalk.wrap64_in _ (by have := HNN.out; omega))
    obtain ⟨b, off, rfl, hbl, hc⟩ := HL.out.1 j (by rw [HN.out]; exact hlt)
    have hc := hc.below hS.out.1.bel hbl
    obtain ⟨x, hx⟩ : ∃ x, l.getD j st0 = x := ⟨_, rfl⟩
    rw [hx] at hc
    obtain ⟨k0, k1, k2⟩ := x
    obtain ⟨c0, c1, c2⟩ := hc
    obtain ⟨W, hW⟩ : ∃ W, wr.alloc (.cells #[.int .i64 k0, .int .i64 k1, .bool k2] 31) = W := ⟨_, rfl⟩
    have hbk : Blk W wr.heap.size 31 #[.int .i64 k0, .int .i64 k1, .bool k2] := by rw [← hW]; exact Blk.new _ _ _
    have hKW : OwnA w W g r := by rw [← hW]; exact hS.out.1.alloc _
    have hne : wr.heap.size ≠ g := by have := hS.out.1.at_.lt; omega
    have HW := Lib.hid (And.intro hKW (And.intro hbk hne))
    have HI := Lib.hid hS.out.2
    have s0 : W.cell? ⟨wr.heap.size, 0, none⟩ = some (.int .i64 k0) := hbk.cell 0
    have s1 : W.cell? ⟨wr.heap.size, 1, none⟩ = some (.int .i64 k1) := hbk.cell 1
    have s2 : W.cell? ⟨wr.heap.size, 2, none⟩ = some (.bool k2) := hbk.cell 2
    have HEND := Lib.hid (fun (V : World) (r' : Ap) (wt' : Bool) (la' : Int) (h : OwnA w V g r') (hi : r'.state ≠ 0 → wt' = true) => show ∃ (j' : Nat) (r : Ap) (wt : Bool) (la : Int), j' ≤ n ∧ Value.int .i64 ((j : Int) + 1) = .int .i64 j' ∧ Value.bool wt' = .bool wt ∧ Value.int .i64 la' = .int .i64 la ∧ Hid (OwnA w V g r ∧ (r.state ≠ 0 → wt = true)) from
      ⟨j + 1, r', wt', la', hlt, by rw [Int.natCast_add]; rfl, rfl, rfl, Lib.hid ⟨h, hi⟩⟩)
    clear hbl hx hj hbk hKW hne
    by_cases d0 : k0 = 0
    · subst d0
      go_wp2_with fail
      refine (own_want HW.out.1 k1 k2).mono ?_
      rintro e w5 ⟨rfl, h5, t5⟩
      have hb5 := HW.out.2.1.touch t5 HW.out.2.2
      have z1 : w5.cell? ⟨wr.heap.size, 1, none⟩ = some (.int .i64 k1) := hb5.cell 1
      by_cases q1 : k1 < 0
      · have HE := Lib.hid (And.intro h5 (fun h => HI.out (pairs_low HW.out.1.ok q1 k2 h)))
        have e1 : decide (0 ≤ k1) = false := decide_eq_false (by omega)
        clear h5 t5 hb5 q1 s0 s1 s2 c0 c1 c2
        cases wt
        all_goals
          go_wp2_with fail
          go_roundw
          case rel =>
            rw [HJ.out]
            first | exact HEND.out _ _ _ _ HE.out.1 (HE.out.2) | exact HEND.out _ _ _ _ HE.out.1 (fun _ => rfl)
          case measure =>
            rw [HJ.out]
            show n - ((j : Int) + 1).toNat < n - ((j : Int)).toNat
            omega
      · have HE := Lib.hid h5
        have e1 : decide (0 ≤ k1) = true := decide_eq_true (by omega)
        clear h5 t5 hb5 q1 s0 s1 s2 c0 c1 c2
        cases wt
        all_goals
          go_wp2_with fail
          go_roundw
          case rel =>
            rw [HJ.out]
            first | exact HEND.out _ _ _ _ HE.out (fun _ => rfl)
          case measure =>
            rw [HJ.out]
            show n - ((j : Int) + 1).toNat < n - ((j : Int)).toNat
            omega
    by_cases d1 : k0 = 1
    · subst d1
      clear s1 s2 d0
      go_wp2_with fail
      refine (own_all HW.out.1).mono ?_
      rintro e w5 ⟨rfl, h5, _⟩
      clear c0 c1 c2
      have HE := Lib.hid (And.intro h5 (fun h => HI.out (pairs_step HW.out.1.ok (.inr (.inl rfl)) h)))
      clear h5
      go_wp2_with fail
      go_roundw
      case rel =>
        rw [HJ.out]
        first | exact HEND.out _ _ _ _ HE.out.1 (HE.out.2)
      case measure =>
        rw [HJ.out]
        show n - ((j : Int) + 1).toNat < n - ((j : Int)).toNat
        omega
    by_cases d2 : k0 = 2
    · subst d2
      clear s1 s2 d0 d1
      go_wp2_with fail
      refine (own_again HW.out.1).mono ?_
      rintro e w5 ⟨rfl, h5, _⟩
      clear c0 c1 c2
      have HE := Lib.hid (And.intro h5 (fun h => HI.out (pairs_step HW.out.1.ok (.inr (.inr (.inl rfl))) h)))
      clear h5
      go_wp2_with fail
      go_roundw
      case rel =>
        rw [HJ.out]
        first | exact HEND.out _ _ _ _ HE.out.1 (HE.out.2)
      case measure =>
        rw [HJ.out]
        show n - ((j : Int) + 1).toNat < n - ((j : Int)).toNat
        omega
    by_cases d3 : k0 = 3
    · subst d3
      clear s1 s2 d0 d1 d2
      go_wp2_with fail
      refine (own_say HW.out.1).mono ?_
      rintro e w5 ⟨rfl, h5, _⟩
      clear c0 c1 c2
      obtain ⟨s, bo⟩ := r
      have hs : S5 s := HW.out.1.ok
      unfold S5 at hs
      rcases hs with rfl | rfl | rfl | rfl | rfl
      · rw [show stepA ⟨0, bo⟩ 4 = ⟨0, bo⟩ from rfl] at h5
        rw [show sayE (actA ⟨0, bo⟩ 4) = 0 from rfl, show sayB (actA ⟨0, bo⟩ 4) (Ap.born ⟨0, bo⟩) = 0 from rfl, show decide (actA ⟨0, bo⟩ 4 ≠ 0) = false from rfl]
        have HE := Lib.hid h5
        clear h5 s0
        go_wp2_with fail
        go_roundw
        case rel =>
          rw [HJ.out]
          first | exact HEND.out _ _ _ _ HE.out (fun h => absurd rfl h)
        case measure =>
          rw [HJ.out]
          show n - ((j : Int) + 1).toNat < n - ((j : Int)).toNat
          omega
      · rw [show stepA ⟨1, bo⟩ 4 = ⟨2, bo⟩ from rfl] at h5
        rw [show sayE (actA ⟨1, bo⟩ 4) = 0 from rfl, show sayB (actA ⟨1, bo⟩ 4) (Ap.born ⟨1, bo⟩) = bo from rfl, show decide (actA ⟨1, bo⟩ 4 ≠ 0) = true from rfl]
        have HE := Lib.hid h5
        obtain rfl : wt = true := HI.out (show (1 : Int) ≠ 0 by decide)
        clear h5 s0
        go_wp2_with fail
        go_roundw
        case rel =>
          rw [HJ.out]
          first | exact HEND.out _ _ _ _ HE.out (fun _ => rfl)
        case measure =>
          rw [HJ.out]
          show n - ((j : Int) + 1).toNat < n - ((j : Int)).toNat
          omega
      · rw [show stepA ⟨2, bo⟩ 4 = ⟨3, bo⟩ from rfl] at h5
        rw [show sayE (actA ⟨2, bo⟩ 4) = 1 from rfl, show sayB (actA ⟨2, bo⟩ 4) (Ap.born ⟨2, bo⟩) = bo from rfl, show decide (actA ⟨2, bo⟩ 4 ≠ 0) = true from rfl]
        have HE := Lib.hid h5
        obtain rfl : wt = true := HI.out (show (2 : Int) ≠ 0 by decide)
        clear h5 s0
        go_wp2_with fail
        go_roundw
        case rel =>
          rw [HJ.out]
          first | exact HEND.out _ _ _ _ HE.out (fun _ => rfl)
        case measure =>
          rw [HJ.out]
          show n - ((j : Int) + 1).toNat < n - ((j : Int)).toNat
          omega
      · rw [show stepA ⟨3, bo⟩ 4 = ⟨3, bo⟩ from rfl] at h5
        rw [show sayE (actA ⟨3, bo⟩ 4) = 0 from rfl, show sayB (actA ⟨3, bo⟩ 4) (Ap.born ⟨3, bo⟩) = 0 from rfl, show decide (actA ⟨3, bo⟩ 4 ≠ 0) = false from rfl]
        have HE := Lib.hid h5
        obtain rfl : wt = true := HI.out (show (3 : Int) ≠ 0 by decide)
        clear h5 s0
        go_wp2_with fail
        go_roundw
        case rel =>
          rw [HJ.out]
          first | exact HEND.out _ _ _ _ HE.out (fun _ => rfl)
        case measure =>
          rw [HJ.out]
          show n - ((j : Int) + 1).toNat < n - ((j : Int)).toNat
          omega
      · rw [show stepA ⟨4, bo⟩ 4 = ⟨0, bo⟩ from rfl] at h5
        rw [show sayE (actA ⟨4, bo⟩ 4) = 5 from rfl, show sayB (actA ⟨4, bo⟩ 4) (Ap.born ⟨4, bo⟩) = bo from rfl, show decide (actA ⟨4, bo⟩ 4 ≠ 0) = true from rfl]
        have HE := Lib.hid h5
        obtain rfl : wt = true := HI.out (show (4 : Int) ≠ 0 by decide)
        clear h5 s0
        by_cases hla : la = 5
        · subst hla
          go_wp2_with fail
          go_roundw
          case rel =>
            rw [HJ.out]
            first | exact HEND.out _ _ _ _ HE.out (fun h => absurd rfl h)
          case measure =>
            rw [HJ.out]
            show n - ((j : Int) + 1).toNat < n - ((j : Int)).toNat
            omega
        · have ela : (la == 5) = false := by simpa using hla
          clear hla
          go_wp2_with fail
          go_roundw
          case rel =>
            rw [HJ.out]
            first | exact HEND.out _ _ _ _ HE.out (fun h => absurd rfl h)
          case measure =>
            rw [HJ.out]
            show n - ((j : Int) + 1).toNat < n - ((j : Int)).toNat
            omega
    have f0 : (k0 == 0) = false := by simpa using d0
    have f1 : (k0 == 1) = false := by simpa using d1
    have f2 : (k0 == 2) = false := by simpa using d2
    have f3 : (k0 == 3) = false := by simpa using d3
    have HE := Lib.hid HW.out.1
    clear d0 d1 d2 d3 s1 s2
    go_wp2_with fail
    go_roundw
    case rel =>
      rw [HJ.out]
      first | exact HEND.out _ _ _ _ HE.out (HI.out)
    case measure =>
      rw [HJ.out]
      show n - ((j : Int) + 1).toNat < n - ((j : Int)).toNat
      omega

set_option maxRecDepth 100000 in
theorem liftedAppliPairs (os : Os) (started : os.Started) (H : Type) (enc : TypeId × Value → H) :
    ReturnsInHanded {} Try.checked os 6 .any (Rows.appliPairsSpec.pre6 enc Try.prog Try.f6 Rows.appliPairsRow.domain false) (Rows.appliPairsSpec.post enc Try.prog Try.f6 false true false false) := by
  refine returnsInHanded_of_change (C := Try.checked) own started (by kernel_rfl) Try.func6
    (ChangeSpec.witness6 (enc := enc) (C := Try.checked) false ⟨#[], #[.slice none 0 0], []⟩ 8 (by kernel_rfl) (by kernel_rfl) (by kernel_rfl) (by kernel_rfl)) ?_
  intro W base args ds gs before hval0 hW hcnd _
  have hval : ∀ (j : Nat) t v, Try.f6.params[j]? = some t → args[j]? = some v → Value.okWide Try.prog W .any base t v := hval0
  have hW' := hW
  obtain ⟨p, q, hA0, hV, rfl, hfz, hnd⟩ := hW
  have hA : DataW.TrodAll enc Try.prog W 0 (fun _ => true) true Try.f6.params.toList args.toList ds p := hA0
  rw [Try.params6] at hA hval
  obtain ⟨v0, vs0, d0, ds0, p0, q0, hargs, rfl, rfl, h0, r0⟩ := trodAll_cons hA
  obtain ⟨rfl, rfl, rfl⟩ := trodAll_nil r0
  obtain rfl : args = #[v0] := by cases args; simp_all
  obtain ⟨rfl, rfl⟩ := trodVars_none hV
  obtain ⟨a0', len0', cap0', rfl⟩ := okWide_slice Try.underlying22 (hval 0 22 v0 rfl rfl)
  have k0 := h0
  have lt0 : ∀ x ∈ p0, x.block < W.heap.size := by obtain ⟨m, hm⟩ := k0; exact DataW.trod_lt m _ _ _ hm
  obtain ⟨a0, cap0, l0, w0, e1, e2, e3⟩ : ∃ a cap, ∃ l : List St, (StAt W W.heap.size a l ∧ l.length ≤ maxLen) ∧ a0' = a ∧ len0' = l.length ∧ cap0' = cap := by
    obtain ⟨fuel, hf⟩ := h0
    obtain ⟨a, cap, l, hcs, q⟩ := open_steps hf
    simp [Value.cells] at hcs
    obtain ⟨rfl, rfl, rfl⟩ := hcs
    exact ⟨_, _, l, q, rfl, rfl, rfl⟩
  subst e1 e2 e3
  clear hA0 hval0
  refine (walkAppliPairs a0' cap0' l0 W w0).mono fun e W' ⟨he, bel⟩ => ?_
  subst he
  exact ⟨_, rfl, _, _, _, [], _, [], hW', trodAll_mk1 (shut_bool Try.underlying4 _), (trodAll_cons_mk (Below.trod laidOut (by kernel_rfl) (of_decide_eq_true (by kernel_rfl)) k0 bel lt0) trodAll_mk0), rfl, bel.frame _, fun h => by cases h⟩

theorem overAppliPairs : Rows.appliPairsRow.holds Try.pinned (OpenSpec.ofChange Rows.appliPairsSpec) :=
  OpenClaim.holds_of_wide 6 Try.f6 rfl rfl rfl rfl rfl rfl rfl ⟨rfl, rfl, rfl, rfl, rfl⟩ rfl rfl rfl rfl rfl (by kernel_rfl) Try.func6 (by kernel_rfl)
    (of_decide_eq_true (by kernel_rfl)) (by unfold Func.isWrapper; first | (rw [if_pos (by decide +kernel)]; kernel_rfl) | (rw [if_neg (by decide +kernel)]; exact ⟨rfl, rfl⟩))
    (fun os started H enc _ => liftedAppliPairs os started H enc)

/-- The statement. -/
theorem appliPairs_holds : Rows.AppliPairsSaid := overAppliPairs

#print axioms appliPairs_holds
end Go.Proofs.Ytnifdbhihbjeaaa
