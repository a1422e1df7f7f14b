/- AppliDoes: in every script what is said, and the state are the document's; a nil one. No condition. -/
import Derived.Test.YtnifdbhihbjeaaaApAlive
import Derived.Test.YtnifdbhihbjeaaaApSteps
import Derived.Test.YtnifdbhihbjeaaaApDoc
import Derived.Test.YtnifdbhihbjeaaaFrame
import Derived.IntWalk
import Derived.Deep.Cut
import Derived.Deep.CutRange
import Derived.Deep.CutBlock
import Derived.Deep.DeepCutAuto
namespace Go.Proofs.Ytnifdbhihbjeaaa
open Go.ChangeShapes Go.WideShapes Go.ChangeAt Go.RowKit Go.Deep
set_option maxRecDepth 100000

/-- The program's applicant and the document's, one and the same. -/
structure PairA (w0 w : World) (g d : Nat) (r : Ap) : Prop where
  one : ApAt w g r
  two : DaAt w d r
  ne : g ≠ d
  low : w0.heap.size ≤ g ∧ w0.heap.size ≤ d
  bel : Below w0.heap.size w0 w
  ok : S5 r.state
theorem PairA.step {w0 w w1 w2 : World} {g d : Nat} {r r' : Ap} (h : PairA w0 w g d r) (h1 : ApAt w1 g r') (t1 : Touch (fun k => k = g) w w1) (h2 : DaAt w2 d r') (t2 : Touch (fun k => k = d) w1 w2) (ho : S5 r'.state) : PairA w0 w2 g d r' :=
  ⟨h1.touch t2 h.ne, h2, h.ne, h.low, below_app (below_app h.bel t1 h.low.1) t2 h.low.2, ho⟩
theorem PairA.alloc {w0 w : World} {g d : Nat} {r : Ap} (h : PairA w0 w g d r) (o : Obj) : PairA w0 (w.alloc o) g d r := ⟨Blk.alloc h.one o, Blk.alloc h.two o, h.ne, h.low, h.bel.alloc h.bel.size o, h.ok⟩
theorem PairA.drewN {w0 w : World} {g d : Nat} {r : Ap} (h : PairA w0 w g d r) (q : Nat) : PairA w0 (w.drewN q) g d r := ⟨Blk.drewN h.one q, Blk.drewN h.two q, h.ne, h.low, bel_drewN h.bel q, h.ok⟩
theorem flip_same {P : Program} {f : FuncId} {args : Array Value} {w : World} {v : Ending} (h : Calls P f args w fun e w' => e = v ∧ w = w') : Calls P f args w fun e w' => e = v ∧ w' = w := h.mono fun _ _ ⟨a, b⟩ => ⟨a, b.symm⟩
set_option maxHeartbeats 16000000 in
theorem walkAppliDoes (A : Option Addr) (c : Nat) (l : List St) (w : World) (hl : StAt w w.heap.size A l ∧ l.length ≤ maxLen) :
    Calls Try.prog 3 #[.slice A l.length c] w fun e w' => e = .returned (.bool true) ∧ Below w.heap.size w w' := by
  have HAL := Lib.hid (aalive_any w)
  have HL := Lib.hid hl
  obtain ⟨n, hn⟩ : ∃ n, l.length = n := ⟨_, rfl⟩
  rw [hn]
  have HN := Lib.hid hn
  have n0 : (0 : Int) ≤ n := by omega
  clear hl hn
  go_enter Try.func3, Try.ntmps3
  go_wp2_with fail
  refine HAL.out.mono ?_
  rintro e w1 ⟨rfl, b1⟩
  by_cases q0 : 100 < (n : Int)
  · go_wp2_with fail
    go_ret
    exact ⟨rfl, b1⟩
  have e0 : decide (100 < (n : Int)) = false := decide_eq_false q0
  have HNN := Lib.hid (show n ≤ 100 by omega)
  have HS0 := Lib.hid (show PairA w ((w1.alloc (.cells (Ap.arr ⟨0, 0⟩) 26)).alloc (.cells (Ap.arr ⟨0, 0⟩) 29)) w1.heap.size (w1.alloc (.cells (Ap.arr ⟨0, 0⟩) 26)).heap.size ⟨0, 0⟩ from by
    have hz := b1.size
    have hb := b1.alloc hz (.cells (Ap.arr ⟨0, 0⟩) 26)
    have e : (w1.alloc (.cells (Ap.arr ⟨0, 0⟩) 26)).heap.size = w1.heap.size + 1 := by simp
    exact ⟨Blk.alloc (Blk.new _ _ _) _, Blk.new _ _ _, by omega, ⟨hz, by omega⟩, hb.alloc hb.size _, .inl rfl⟩)
  clear q0 b1
  go_wp2_with fail
  obtain ⟨d, hd⟩ : ∃ d, (w1.alloc (.cells (Ap.arr ⟨0, 0⟩) 26)).heap.size = d := ⟨_, rfl⟩
  have hd2 : w1.heap.size + 1 = d := by rw [← hd]; simp
  obtain ⟨g, hg⟩ : ∃ g, w1.heap.size = g := ⟨_, rfl⟩
  first | rw [hd] at HS0 ⊢ | rw [hd] at HS0
  try rw [hd2]
  rw [hg] at HS0 ⊢
  clear hd hd2 hg
  go_loopw [28] (fun iv wr => ∃ (j : Nat) (r : Ap), j ≤ n ∧ iv = .int .i64 j ∧ Hid (PairA w wr g d r)) (fun iv _ => n - (intOf iv).toNat)
  case atStart => exact ⟨0, _, Nat.zero_le _, rfl, Lib.hid HS0.out⟩
  case round =>
    obtain ⟨j, r, hj, rfl, hS⟩ := hrel
    by_cases hlt : j < n
    rotate_left
    · go_wp2_with (first | (go_at_call 8; (with_reducible (refine (awant_nil _ _ _).mono ?_)); rintro e w' ⟨rfl, rfl⟩) | (go_at_call 10; (with_reducible (refine (aall_nil _).mono ?_)); rintro e w' ⟨rfl, rfl⟩) | (go_at_call 12; (with_reducible (refine (aagain_nil _).mono ?_)); rintro e w' ⟨rfl, rfl⟩) | (go_at_call 13; (with_reducible (refine (asay_nil _).mono ?_)); rintro e w' ⟨rfl, rfl⟩) | (go_at_call 16; (with_reducible (refine (aspeaks_nil _).mono ?_)); rintro e w' ⟨rfl, rfl⟩) | (go_at_call 18; (with_reducible (refine (apend_nil _).mono ?_)); rintro e w' ⟨rfl, rfl⟩) | (go_at_call 15; (with_reducible (refine (astate_nil _).mono ?_)); rintro e w' ⟨rfl, rfl⟩) | (go_at_call 19; (with_reducible (refine (aidle_nil _).mono ?_)); rintro e w' ⟨rfl, rfl⟩))
      go_ret
      exact ⟨rfl, hS.out.bel⟩
    have j1 : (j : Int) < n := by omega
    have j0 : (0 : Int) ≤ j := by omega
    have HJ := Lib.hid (show wrap64 ((j : Int) + 1) = (j : Int) + 1 from IntWalk.wrap64_in _ (by have := HNN.out; omega))
    obtain ⟨b, off, rfl, hbl, hc⟩ := HL.out.1 j (by rw [HN.out]; exact hlt)
    have hc := hc.below hS.out.bel hbl
    obtain ⟨x, hx⟩ : ∃ x, l.getD j st0 = x := ⟨_, rfl⟩
    rw [hx] at hc
    obtain ⟨k0, k1, k2⟩ := x
    obtain ⟨c0, c1, c2⟩ := hc
    obtain ⟨W, hW⟩ : ∃ W, wr.alloc (.cells #[.int .i64 k0, .int .i64 k1, .bool k2] 31) = W := ⟨_, rfl⟩
    have hbk : Blk W wr.heap.size 31 #[.int .i64 k0, .int .i64 k1, .bool k2] := by rw [← hW]; exact Blk.new _ _ _
    have hKW : PairA w W g d r := by rw [← hW]; exact hS.out.alloc _
    have hne : wr.heap.size ≠ g ∧ wr.heap.size ≠ d := by have := hS.out.one.lt; have := hS.out.two.lt; omega
    have HW := Lib.hid (And.intro hKW (And.intro hbk hne))
    have s0 : W.cell? ⟨wr.heap.size, 0, none⟩ = some (.int .i64 k0) := hbk.cell 0
    have s1 : W.cell? ⟨wr.heap.size, 1, none⟩ = some (.int .i64 k1) := hbk.cell 1
    have s2 : W.cell? ⟨wr.heap.size, 2, none⟩ = some (.bool k2) := hbk.cell 2
    have HEND := Lib.hid (fun (V : World) (r' : Ap) (h : PairA w V g d r') => show ∃ (j' : Nat) (r : Ap), j' ≤ n ∧ Value.int .i64 ((j : Int) + 1) = .int .i64 j' ∧ Hid (PairA w V g d r) from
      ⟨j + 1, r', hlt, by rw [Int.natCast_add]; rfl, Lib.hid h⟩)
    clear hbl hx hj hbk hKW hne
    go_upto_block 2 with fail
    go_cut [] (fun wx => ∃ (r' : Ap), Hid (PairA w wx g d r'))
    case first =>
      by_cases d0 : k0 = 0
      · subst d0
        go_wp2_with fail
        refine (awant_any HW.out.1.one HW.out.1.ok k1 k2).mono ?_
        rintro e w5 ⟨rfl, h5, t5⟩
        have hb5 := HW.out.2.1.touch t5 HW.out.2.2.1
        have z1 : w5.cell? ⟨wr.heap.size, 1, none⟩ = some (.int .i64 k1) := hb5.cell 1
        have z2 : w5.cell? ⟨wr.heap.size, 2, none⟩ = some (.bool k2) := hb5.cell 2
        clear hb5
        have h6 : DaAt w5 d r := HW.out.1.two.touch t5 HW.out.1.ne.symm
        have H5 := Lib.hid (And.intro h5 (And.intro t5 h6))
        clear h5 t5 h6 s0 s1 s2 c0 c1 c2
        go_wp2_with fail
        refine (dwant_any H5.out.2.2 HW.out.1.ok k1 k2).mono ?_
        rintro e w7 ⟨rfl, h7, t7⟩
        have HE := Lib.hid (HW.out.1.step H5.out.1 H5.out.2.1 h7 t7 (wantA_ok HW.out.1.ok k1 k2))
        clear h7 t7
        go_wp2_with fail
        go_meet
        exact ⟨_, Lib.hid HE.out⟩
      by_cases d1 : k0 = 1
      · subst d1
        go_wp2_with fail
        refine (aall_any HW.out.1.one HW.out.1.ok).mono ?_
        rintro e w5 ⟨rfl, h5, t5⟩
        have h6 : DaAt w5 d r := HW.out.1.two.touch t5 HW.out.1.ne.symm
        have H5 := Lib.hid (And.intro h5 (And.intro t5 h6))
        clear h5 t5 h6 s0 s1 s2 c0 c1 c2 d0
        go_wp2_with fail
        refine (ddo_any H5.out.2.2 HW.out.1.ok 2 (by unfold E6; omega)).mono ?_
        rintro e w7 ⟨rfl, h7, t7⟩
        have HE := Lib.hid (HW.out.1.step H5.out.1 H5.out.2.1 h7 t7 (stepA_ok HW.out.1.ok (by unfold E6; omega)))
        clear h7 t7
        go_wp2_with fail
        go_meet
        exact ⟨_, Lib.hid HE.out⟩
      by_cases d2 : k0 = 2
      · subst d2
        go_wp2_with fail
        refine (aagain_any HW.out.1.one HW.out.1.ok).mono ?_
        rintro e w5 ⟨rfl, h5, t5⟩
        have h6 : DaAt w5 d r := HW.out.1.two.touch t5 HW.out.1.ne.symm
        have H5 := Lib.hid (And.intro h5 (And.intro t5 h6))
        clear h5 t5 h6 s0 s1 s2 c0 c1 c2 d0 d1
        go_wp2_with fail
        refine (ddo_any H5.out.2.2 HW.out.1.ok 3 (by unfold E6; omega)).mono ?_
        rintro e w7 ⟨rfl, h7, t7⟩
        have HE := Lib.hid (HW.out.1.step H5.out.1 H5.out.2.1 h7 t7 (stepA_ok HW.out.1.ok (by unfold E6; omega)))
        clear h7 t7
        go_wp2_with fail
        go_meet
        exact ⟨_, Lib.hid HE.out⟩
      by_cases d3 : k0 = 3
      · subst d3
        go_wp2_with fail
        refine (asay_any HW.out.1.one HW.out.1.ok).mono ?_
        rintro e w5 ⟨rfl, h5, t5⟩
        have h6 : DaAt w5 d r := HW.out.1.two.touch t5 HW.out.1.ne.symm
        have H5 := Lib.hid (And.intro h5 (And.intro t5 h6))
        have HDS := Lib.hid (show Calls Try.prog 14 #[.pointer (some ⟨d, 0, none⟩)] w5 fun x w' => x = .returned (.tuple #[.int .i64 (sayE (actA r 4)), .int .i64 (sayB (actA r 4) r.born), .bool (decide (actA r 4 ≠ 0))]) ∧ DaAt w' d (stepA r 4) ∧ Touch (fun k => k = d) w5 w' from dsay_any h6 HW.out.1.ok)
        unfold sayV
        obtain ⟨is, his⟩ : ∃ is, decide (actA r 4 ≠ 0) = is := ⟨_, rfl⟩
        obtain ⟨x, hx⟩ : ∃ x, sayE (actA r 4) = x := ⟨_, rfl⟩
        obtain ⟨y, hy⟩ : ∃ y, sayB (actA r 4) r.born = y := ⟨_, rfl⟩
        rw [his, hx, hy] at HDS ⊢
        have ex : (x != x) = false := by simp
        have ey : (y != y) = false := by simp
        clear his hx hy
        clear h5 t5 h6 s0 s1 s2 c0 c1 c2 d0 d1 d2
        go_wp2_with fail
        refine (HDS.out).mono ?_
        rintro e w7 ⟨rfl, h7, t7⟩
        have HE := Lib.hid (HW.out.1.step H5.out.1 H5.out.2.1 h7 t7 (stepA_ok HW.out.1.ok (by unfold E6; omega)))
        clear h7 t7
        cases is
        all_goals
          go_wp2_with fail
          go_meet
          exact ⟨_, Lib.hid HE.out⟩
      have f0 : (k0 == 0) = false := by simpa using d0
      have f1 : (k0 == 1) = false := by simpa using d1
      have f2 : (k0 == 2) = false := by simpa using d2
      have f3 : (k0 == 3) = false := by simpa using d3
      have HE := Lib.hid HW.out.1
      clear d0 d1 d2 d3 s1 s2
      go_wp2_with fail
      go_meet
      exact ⟨_, Lib.hid HE.out⟩
    case rest =>
      obtain ⟨r', HE⟩ := hcut
      have hst := HE.out.ok
      have p0 := HE.out.two.c0
      have HQS := Lib.hid (fun q => flip_same (astate_any (HE.out.drewN q).one))
      have HQP := Lib.hid (fun q => flip_same (aspeaks_any (HE.out.drewN q).one HE.out.ok))
      have HQD := Lib.hid (fun q => flip_same (dspeaks_any (HE.out.drewN q).two HE.out.ok))
      have HQE := Lib.hid (fun q => flip_same (apend_any (HE.out.drewN q).one HE.out.ok))
      have HQI := Lib.hid (fun q => flip_same (aidle_any (HE.out.drewN q).one))
      obtain ⟨sp, hsp⟩ : ∃ sp, speaksA r' = sp := ⟨_, rfl⟩
      rw [hsp] at HQP HQD
      clear s0 s1 s2 c0 c1 c2 hsp
      obtain ⟨s', bo⟩ := r'
      simp only at p0 HQS HQI hst
      unfold S5 at hst
      rcases hst with rfl | rfl | rfl | rfl | rfl
      · rw [show pendA ⟨0, bo⟩ = false from rfl] at HQE
        rw [show ((0 : Int) == 0) = true from rfl] at HQI
        have esp : (sp != sp) = false := by cases sp <;> rfl
        as_aux_lemma =>
          go_wp2_with fail
          go_quiet (first | (go_at_call 15; exact Calls.quiet_of_same (HQS.out _)) | (go_at_call 16; exact Calls.quiet_of_same (HQP.out _)) | (go_at_call 17; exact Calls.quiet_of_same (HQD.out _)) | (go_at_call 18; exact Calls.quiet_of_same (HQE.out _)) | (go_at_call 19; exact Calls.quiet_of_same (HQI.out _)))
          go_wp2_with fail
          go_roundw
          case rel =>
            rw [HJ.out]
            exact HEND.out _ _ (HE.out.drewN _)
          case measure =>
            rw [HJ.out]
            show n - ((j : Int) + 1).toNat < n - ((j : Int)).toNat
            omega
      · rw [show pendA ⟨1, bo⟩ = true from rfl] at HQE
        rw [show ((1 : Int) == 0) = false from rfl] at HQI
        have esp : (sp != sp) = false := by cases sp <;> rfl
        as_aux_lemma =>
          go_wp2_with fail
          go_quiet (first | (go_at_call 15; exact Calls.quiet_of_same (HQS.out _)) | (go_at_call 16; exact Calls.quiet_of_same (HQP.out _)) | (go_at_call 17; exact Calls.quiet_of_same (HQD.out _)) | (go_at_call 18; exact Calls.quiet_of_same (HQE.out _)) | (go_at_call 19; exact Calls.quiet_of_same (HQI.out _)))
          go_wp2_with fail
          go_roundw
          case rel =>
            rw [HJ.out]
            exact HEND.out _ _ (HE.out.drewN _)
          case measure =>
            rw [HJ.out]
            show n - ((j : Int) + 1).toNat < n - ((j : Int)).toNat
            omega
      · rw [show pendA ⟨2, bo⟩ = true from rfl] at HQE
        rw [show ((2 : Int) == 0) = false from rfl] at HQI
        have esp : (sp != sp) = false := by cases sp <;> rfl
        as_aux_lemma =>
          go_wp2_with fail
          go_quiet (first | (go_at_call 15; exact Calls.quiet_of_same (HQS.out _)) | (go_at_call 16; exact Calls.quiet_of_same (HQP.out _)) | (go_at_call 17; exact Calls.quiet_of_same (HQD.out _)) | (go_at_call 18; exact Calls.quiet_of_same (HQE.out _)) | (go_at_call 19; exact Calls.quiet_of_same (HQI.out _)))
          go_wp2_with fail
          go_roundw
          case rel =>
            rw [HJ.out]
            exact HEND.out _ _ (HE.out.drewN _)
          case measure =>
            rw [HJ.out]
            show n - ((j : Int) + 1).toNat < n - ((j : Int)).toNat
            omega
      · rw [show pendA ⟨3, bo⟩ = false from rfl] at HQE
        rw [show ((3 : Int) == 0) = false from rfl] at HQI
        have esp : (sp != sp) = false := by cases sp <;> rfl
        as_aux_lemma =>
          go_wp2_with fail
          go_quiet (first | (go_at_call 15; exact Calls.quiet_of_same (HQS.out _)) | (go_at_call 16; exact Calls.quiet_of_same (HQP.out _)) | (go_at_call 17; exact Calls.quiet_of_same (HQD.out _)) | (go_at_call 18; exact Calls.quiet_of_same (HQE.out _)) | (go_at_call 19; exact Calls.quiet_of_same (HQI.out _)))
          go_wp2_with fail
          go_roundw
          case rel =>
            rw [HJ.out]
            exact HEND.out _ _ (HE.out.drewN _)
          case measure =>
            rw [HJ.out]
            show n - ((j : Int) + 1).toNat < n - ((j : Int)).toNat
            omega
      · rw [show pendA ⟨4, bo⟩ = true from rfl] at HQE
        rw [show ((4 : Int) == 0) = false from rfl] at HQI
        have esp : (sp != sp) = false := by cases sp <;> rfl
        as_aux_lemma =>
          go_wp2_with fail
          go_quiet (first | (go_at_call 15; exact Calls.quiet_of_same (HQS.out _)) | (go_at_call 16; exact Calls.quiet_of_same (HQP.out _)) | (go_at_call 17; exact Calls.quiet_of_same (HQD.out _)) | (go_at_call 18; exact Calls.quiet_of_same (HQE.out _)) | (go_at_call 19; exact Calls.quiet_of_same (HQI.out _)))
          go_wp2_with fail
          go_roundw
          case rel =>
            rw [HJ.out]
            exact HEND.out _ _ (HE.out.drewN _)
          case measure =>
            rw [HJ.out]
            show n - ((j : Int) + 1).toNat < n - ((j : Int)).toNat
            omega

set_option maxRecDepth 100000 in
theorem liftedAppliDoes (os : Os) (started : os.Started) (H : Type) (enc : TypeId × Value → H) :
    ReturnsInHanded {} Try.checked os 3 .any (Rows.appliDoesSpec.pre6 enc Try.prog Try.f3 Rows.appliDoesRow.domain false) (Rows.appliDoesSpec.post enc Try.prog Try.f3 false true false false) := by
  refine returnsInHanded_of_change (C := Try.checked) own started (by kernel_rfl) Try.func3
    (ChangeSpec.witness6 (enc := enc) (C := Try.checked) false ⟨#[], #[.slice none 0 0], []⟩ 8 (by kernel_rfl) (by kernel_rfl) (by kernel_rfl) (by kernel_rfl)) ?_
  intro W base args ds gs before hval0 hW hcnd _
  have hval : ∀ (j : Nat) t v, Try.f3.params[j]? = some t → args[j]? = some v → Value.okWide Try.prog W .any base t v := hval0
  have hW' := hW
  obtain ⟨p, q, hA0, hV, rfl, hfz, hnd⟩ := hW
  have hA : DataW.TrodAll enc Try.prog W 0 (fun _ => true) true Try.f3.params.toList args.toList ds p := hA0
  rw [Try.params3] at hA hval
  obtain ⟨v0, vs0, d0, ds0, p0, q0, hargs, rfl, rfl, h0, r0⟩ := trodAll_cons hA
  obtain ⟨rfl, rfl, rfl⟩ := trodAll_nil r0
  obtain rfl : args = #[v0] := by cases args; simp_all
  obtain ⟨rfl, rfl⟩ := trodVars_none hV
  obtain ⟨a0', len0', cap0', rfl⟩ := okWide_slice Try.underlying22 (hval 0 22 v0 rfl rfl)
  have k0 := h0
  have lt0 : ∀ x ∈ p0, x.block < W.heap.size := by obtain ⟨m, hm⟩ := k0; exact DataW.trod_lt m _ _ _ hm
  obtain ⟨a0, cap0, l0, w0, e1, e2, e3⟩ : ∃ a cap, ∃ l : List St, (StAt W W.heap.size a l ∧ l.length ≤ maxLen) ∧ a0' = a ∧ len0' = l.length ∧ cap0' = cap := by
    obtain ⟨fuel, hf⟩ := h0
    obtain ⟨a, cap, l, hcs, q⟩ := open_steps hf
    simp [Value.cells] at hcs
    obtain ⟨rfl, rfl, rfl⟩ := hcs
    exact ⟨_, _, l, q, rfl, rfl, rfl⟩
  subst e1 e2 e3
  clear hA0 hval0
  refine (walkAppliDoes a0' cap0' l0 W w0).mono fun e W' ⟨he, bel⟩ => ?_
  subst he
  exact ⟨_, rfl, _, _, _, [], _, [], hW', trodAll_mk1 (shut_bool Try.underlying4 _), (trodAll_cons_mk (Below.trod laidOut (by kernel_rfl) (of_decide_eq_true (by kernel_rfl)) k0 bel lt0) trodAll_mk0), rfl, bel.frame _, fun h => by cases h⟩

theorem overAppliDoes : Rows.appliDoesRow.holds Try.pinned (OpenSpec.ofChange Rows.appliDoesSpec) :=
  OpenClaim.holds_of_wide 3 Try.f3 rfl rfl rfl rfl rfl rfl rfl ⟨rfl, rfl, rfl, rfl, rfl⟩ rfl rfl rfl rfl rfl (by kernel_rfl) Try.func3 (by kernel_rfl)
    (of_decide_eq_true (by kernel_rfl)) (by unfold Func.isWrapper; first | (rw [if_pos (by decide +kernel)]; kernel_rfl) | (rw [if_neg (by decide +kernel)]; exact ⟨rfl, rfl⟩))
    (fun os started H enc _ => liftedAppliDoes os started H enc)

/-- The statement. -/
theorem appliDoes_holds : Rows.AppliDoesSaid := overAppliDoes

#print axioms appliDoes_holds
end Go.Proofs.Ytnifdbhihbjeaaa
