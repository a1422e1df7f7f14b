/- RegisDoes: in every script each answer, whether it is registered, since when, and the machine's state are the document's; what can't be; a nil one. No condition. -/
import Derived.Test.YtoiapdcleagepaaRgAlive
import Derived.Test.YtoiapdcleagepaaRgSteps
import Derived.Test.YtoiapdcleagepaaRgDoc
import Derived.Deep.Cut
import Derived.Deep.CutRange
import Derived.Deep.CutBlock
import Derived.Deep.DeepCutAuto
namespace Go.Proofs.Ytoiapdcleagepaa
open Go.ChangeShapes Go.WideShapes Go.ChangeAt Go.RowKit Go.Deep
set_option maxRecDepth 100000

theorem dgoodB_of {m : Int} (h0 : ¬ m < 0) (h2 : ¬ 2 < m) : goodB m = true := by
  unfold goodB
  rw [decide_eq_true (by omega : 0 ≤ m), decide_eq_true (by omega : m ≤ 2)]
  rfl
theorem goodB_low {m : Int} (h : m < 0) : goodB m = false := by
  unfold goodB
  rw [decide_eq_false (by omega : ¬ 0 ≤ m)]
  rfl
theorem goodB_high {m : Int} (h : 2 < m) : goodB m = false := by
  unfold goodB
  rw [decide_eq_false (by omega : ¬ m ≤ 2), Bool.and_false]
/-- The program's registrar and the document's, one and the same. -/
structure PairS (w0 w : World) (g d : Nat) (r : Rg) (D T : Int) : Prop where
  one : RgAt w g r
  two : DgAt w d r D
  due : DueOk r D
  ne : g ≠ d
  low : w0.heap.size ≤ g ∧ w0.heap.size ≤ d
  bel : Below w0.heap.size w0 w
  ok : OkR T r
theorem PairS.step {w0 w w1 w2 : World} {g d : Nat} {r r' : Rg} {D D' T T' : Int} (h : PairS w0 w g d r D T) (h1 : RgAt w1 g r') (t1 : Touch (fun k => k = g) w w1) (h2 : DgAt w2 d r' D') (hd : DueOk r' D') (t2 : Touch (fun k => k = d) w1 w2) (ho : OkR T' r') : PairS w0 w2 g d r' D' T' :=
  ⟨h1.touch t2 h.ne, h2, hd, h.ne, h.low, below_reg (below_reg h.bel t1 h.low.1) t2 h.low.2, ho⟩
theorem PairS.alloc {w0 w : World} {g d : Nat} {r : Rg} {D T : Int} (h : PairS w0 w g d r D T) (o : Obj) : PairS w0 (w.alloc o) g d r D T := ⟨Blk.alloc h.one o, Blk.alloc h.two o, h.due, h.ne, h.low, h.bel.alloc h.bel.size o, h.ok⟩
theorem PairS.drewN {w0 w : World} {g d : Nat} {r : Rg} {D T : Int} (h : PairS w0 w g d r D T) (q : Nat) : PairS w0 (w.drewN q) g d r D T := ⟨Blk.drewN h.one q, Blk.drewN h.two q, h.due, h.ne, h.low, bel_drewN h.bel q, h.ok⟩
theorem flip_same {P : Program} {f : FuncId} {args : Array Value} {w : World} {v : Ending} (h : Calls P f args w fun e w' => e = v ∧ w = w') : Calls P f args w fun e w' => e = v ∧ w' = w := h.mono fun _ _ ⟨a, b⟩ => ⟨a, b.symm⟩
set_option maxHeartbeats 16000000 in
theorem walkRegisDoes (mode : Int) (A : Option Addr) (c : Nat) (l : List St) (w : World) (_hm : (Lit.int .i64 mode).wf = true) (hl : StAt w w.heap.size A l ∧ (∀ x ∈ l, x.ok) ∧ l.length ≤ maxLen) :
    Calls Try.prog 3 #[.int .i64 mode, .slice A l.length c] w fun e w' => e = .returned (.bool true) ∧ Below w.heap.size w w' := by
  have HAL := Lib.hid (ralive_any w)
  have HG := Lib.hid (fun w (h : StAt w w.heap.size A l) => sgreat_any A c l w h hl.2.2)
  have HL := Lib.hid hl
  obtain ⟨n, hn⟩ : ∃ n, l.length = n := ⟨_, rfl⟩
  rw [hn] at HG ⊢
  have HN := Lib.hid hn
  have n0 : (0 : Int) ≤ n := by omega
  clear hl hn _hm
  go_enter Try.func3, Try.ntmps3
  go_wp2_with fail
  refine HAL.out.mono ?_
  rintro e w1 ⟨rfl, b1⟩
  have HGG := Lib.hid (HG.out w1 ((HL.out.1.below b1).more b1.size))
  have HB1 := Lib.hid b1
  clear b1
  go_wp2_with fail
  refine HGG.out.mono ?_
  rintro e w2 (⟨rfl, b2⟩ | ⟨rfl, ⟨hn100, hpl⟩, b2⟩)
  · have hf := HB1.out.trans (b2.mono HB1.out.size)
    clear b2
    go_wp2_with fail
    go_ret
    exact ⟨rfl, hf⟩
  have HP := Lib.hid (And.intro hn100 (And.intro hpl (HB1.out.trans (b2.mono HB1.out.size))))
  clear b2 hn100 hpl
  by_cases q0 : mode < 0
  · go_wp2_with fail
    refine (rnew_bad mode (goodB_low q0) _).mono ?_
    rintro e w3 ⟨rfl, rfl⟩
    go_wp2_with (first | (go_at_call 11; (with_reducible (refine (rhear_nil _ _ _ _).mono ?_)); rintro e w' ⟨rfl, rfl⟩) | (go_at_call 12; (with_reducible (refine (rflush_nil _ _).mono ?_)); rintro e w' ⟨rfl, rfl⟩) | (go_at_call 13; (with_reducible (refine (rtick_nil _ _).mono ?_)); rintro e w' ⟨rfl, rfl⟩) | (go_at_call 14; (with_reducible (refine (rhas_nil _).mono ?_)); rintro e w' ⟨rfl, rfl⟩) | (go_at_call 15; (with_reducible (refine (rborn_nil _ _).mono ?_)); rintro e w' ⟨rfl, rfl⟩) | (go_at_call 16; (with_reducible (refine (rstate_nil _).mono ?_)); rintro e w' ⟨rfl, rfl⟩) | (go_at_call 17; (with_reducible (refine (rmode_nil _).mono ?_)); rintro e w' ⟨rfl, rfl⟩) | (go_at_call 18; (with_reducible (refine (ridle_nil _).mono ?_)); rintro e w' ⟨rfl, rfl⟩) | (go_at_call 19; (with_reducible (refine (rset_nil _ _).mono ?_)); rintro e w' ⟨rfl, rfl⟩))
    go_ret
    exact ⟨rfl, HP.out.2.2⟩
  have e0 : decide (mode < 0) = false := decide_eq_false q0
  by_cases q1 : 2 < mode
  · go_wp2_with fail
    refine (rnew_bad mode (goodB_high q1) _).mono ?_
    rintro e w3 ⟨rfl, rfl⟩
    go_wp2_with (first | (go_at_call 11; (with_reducible (refine (rhear_nil _ _ _ _).mono ?_)); rintro e w' ⟨rfl, rfl⟩) | (go_at_call 12; (with_reducible (refine (rflush_nil _ _).mono ?_)); rintro e w' ⟨rfl, rfl⟩) | (go_at_call 13; (with_reducible (refine (rtick_nil _ _).mono ?_)); rintro e w' ⟨rfl, rfl⟩) | (go_at_call 14; (with_reducible (refine (rhas_nil _).mono ?_)); rintro e w' ⟨rfl, rfl⟩) | (go_at_call 15; (with_reducible (refine (rborn_nil _ _).mono ?_)); rintro e w' ⟨rfl, rfl⟩) | (go_at_call 16; (with_reducible (refine (rstate_nil _).mono ?_)); rintro e w' ⟨rfl, rfl⟩) | (go_at_call 17; (with_reducible (refine (rmode_nil _).mono ?_)); rintro e w' ⟨rfl, rfl⟩) | (go_at_call 18; (with_reducible (refine (ridle_nil _).mono ?_)); rintro e w' ⟨rfl, rfl⟩) | (go_at_call 19; (with_reducible (refine (rset_nil _ _).mono ?_)); rintro e w' ⟨rfl, rfl⟩))
    go_ret
    exact ⟨rfl, HP.out.2.2⟩
  have e1 : decide (2 < mode) = false := decide_eq_false q1
  have HGB := Lib.hid (dgoodB_of q0 q1)
  clear q0 q1
  go_wp2_with fail
  refine (rnew_ok mode HGB.out _).mono ?_
  rintro e w3 ⟨g, rfl, h3, b3, hg⟩
  have HST := Lib.hid (show PairS w (w3.alloc (.cells (docArr ⟨mode, 0, 0, 0⟩ 0) 36)) g w3.heap.size ⟨mode, 0, 0, 0⟩ 0 0 from by
    have hb := HP.out.2.2.trans (b3.mono HP.out.2.2.size)
    have hl3 := h3.lt
    have hz := HP.out.2.2.size
    exact ⟨Blk.alloc h3 _, Blk.new _ _ _, fun h => absurd (show (0 : Int) = 1 from h) (by decide), by omega, ⟨by omega, hb.size⟩, hb.alloc hb.size _, okR_new HGB.out (Int.le_refl _)⟩)
  clear h3 b3 hg
  go_wp2_with fail
  obtain ⟨d, hd⟩ : ∃ d, w3.heap.size = d := ⟨_, rfl⟩
  rw [hd] at HST ⊢
  clear hd
  go_loopw [8, 84] (fun nv iv wr => ∃ (j : Nat) (r : Rg) (D T : Int), j ≤ n ∧ iv = .int .i64 j ∧ nv = .int .i64 T ∧ Hid (PairS w wr g d r D T ∧ (0 ≤ T ∧ T ≤ 1000 * j))) (fun _ iv _ => n - (intOf iv).toNat)
  case atStart => exact ⟨0, _, 0, 0, Nat.zero_le _, rfl, rfl, Lib.hid ⟨HST.out, Int.le_refl _, Int.le_refl _⟩⟩
  case round =>
    obtain ⟨j, r, D, T, hj, rfl, rfl, hS⟩ := hrel
    by_cases hlt : j < n
    rotate_left
    · go_wp2_with fail
      go_ret
      exact ⟨rfl, hS.out.1.bel⟩
    have j1 : (j : Int) < n := by omega
    have j0 : (0 : Int) ≤ j := by omega
    have HJ := Lib.hid (show wrap64 ((j : Int) + 1) = (j : Int) + 1 from IntWalk.wrap64_in _ (by have := HP.out.1; omega))
    have hj' : j < l.length := by rw [HN.out]; exact hlt
    obtain ⟨b, off, rfl, hbl, hc⟩ := HL.out.1 j hj'
    have hc := hc.below hS.out.1.bel hbl
    have hxo := HL.out.2.1 (l.getD j st0) (by rw [List.getD_eq_getElem?_getD, List.getElem?_eq_getElem hj']; exact List.getElem_mem hj')
    have hwt := HP.out.2.1 j hlt
    obtain ⟨x, hx⟩ : ∃ x, l.getD j st0 = x := ⟨_, rfl⟩
    rw [hx] at hc hxo hwt
    obtain ⟨k0, k1, k2, k3⟩ := x
    obtain ⟨c0, c1, c2, c3⟩ := hc
    obtain ⟨W, hW⟩ : ∃ W, wr.alloc (.cells #[.int .i64 k0, .int .i64 k1, .int .i64 k2, .int .i64 k3] 38) = W := ⟨_, rfl⟩
    have hbk : Blk W wr.heap.size 38 #[.int .i64 k0, .int .i64 k1, .int .i64 k2, .int .i64 k3] := by rw [← hW]; exact Blk.new _ _ _
    have hKW : PairS w W g d r D T := by rw [← hW]; exact hS.out.1.alloc _
    have hne : wr.heap.size ≠ g ∧ wr.heap.size ≠ d := by have := hS.out.1.one.lt; have := hS.out.1.two.lt; omega
    have hTk : Tk T := ⟨hS.out.2.1, by have := hS.out.2.2; have := HP.out.1; omega⟩
    have HX := Lib.hid (And.intro hxo hwt)
    have HW := Lib.hid (And.intro hKW (And.intro hTk (And.intro hbk hne)))
    have s0 : W.cell? ⟨wr.heap.size, 0, none⟩ = some (.int .i64 k0) := hbk.cell 0
    have s1 : W.cell? ⟨wr.heap.size, 1, none⟩ = some (.int .i64 k1) := hbk.cell 1
    have s2 : W.cell? ⟨wr.heap.size, 2, none⟩ = some (.int .i64 k2) := hbk.cell 2
    have s3 : W.cell? ⟨wr.heap.size, 3, none⟩ = some (.int .i64 k3) := hbk.cell 3
    have HEND := Lib.hid (fun (V : World) (r' : Rg) (D' T' : Int) (h : PairS w V g d r' D' T') (hT : 0 ≤ T' ∧ T' ≤ 1000 * ((j : Int) + 1)) => show ∃ (j' : Nat) (r : Rg) (D T : Int), j' ≤ n ∧ Value.int .i64 ((j : Int) + 1) = .int .i64 j' ∧ Value.int .i64 T' = .int .i64 T ∧ Hid (PairS w V g d r D T ∧ (0 ≤ T ∧ T ≤ 1000 * j')) from
      ⟨j + 1, r', D', T', hlt, by rw [Int.natCast_add]; rfl, rfl, Lib.hid ⟨h, hT.1, by have := hT.2; omega⟩⟩)
    have HT0 := Lib.hid (show 0 ≤ T ∧ T ≤ 1000 * ((j : Int) + 1) from ⟨hS.out.2.1, by have := hS.out.2.2; omega⟩)
    have HD0 := Lib.hid (dhas_any hKW.two hKW.ok.state)
    obtain ⟨b0, hb0⟩ : ∃ b0, hasR r = b0 := ⟨_, rfl⟩
    have HBQ := Lib.hid hb0
    rw [hb0] at HD0
    clear hbl hx hxo hwt hj' hj hbk hKW hne hTk hb0
    go_upto_block 2 with (go_at_call 20; (with_reducible (refine HD0.out.mono ?_)); rintro e w' ⟨rfl, rfl⟩)
    go_cut [8, 12, 13] (fun nv tl sy wx => ∃ (r' : Rg) (D' T' : Int) (u v : Bool), nv = .int .i64 T' ∧ tl = .bool u ∧ sy = .bool v ∧ Hid (PairS w wx g d r' D' T' ∧ Tk T' ∧ (0 ≤ T' ∧ T' ≤ 1000 * ((j : Int) + 1)) ∧ (v = true → u = (hasR r' != b0))))
    case first =>
      have HTK := Lib.hid HW.out.2.1
      have HTB := HT0
      by_cases d0 : k0 = 0
      · subst d0
        go_wp2_with fail
        refine (rhear_any HW.out.1.one HW.out.1.ok HW.out.2.1 k1 k2).mono ?_
        rintro e w5 ⟨rfl, h5, t5⟩
        have hb5 := HW.out.2.2.1.touch t5 HW.out.2.2.2.1
        have z1 : w5.cell? ⟨wr.heap.size, 1, none⟩ = some (.int .i64 k1) := hb5.cell 1
        have z2 : w5.cell? ⟨wr.heap.size, 2, none⟩ = some (.int .i64 k2) := hb5.cell 2
        have h6 : DgAt w5 d r D := HW.out.1.two.touch t5 HW.out.1.ne.symm
        have H5 := Lib.hid (And.intro h5 (And.intro t5 h6))
        rw [HBQ.out]
        clear h5 t5 h6 hb5 s0 s1 s2 s3 c0 c1 c2 c3
        go_wp2_with fail
        refine (dhear_any H5.out.2.2 HW.out.1.ok HW.out.2.1 HW.out.1.due k1 k2).mono ?_
        rintro e w7 ⟨rfl, ⟨D', h7, hD7⟩, t7⟩
        have HE := Lib.hid (HW.out.1.step H5.out.1 H5.out.2.1 h7 hD7 t7 (HW.out.1.ok.hear HW.out.2.1.1 k1 k2))
        obtain ⟨r', hr'⟩ : ∃ r', hearR r k1 k2 T = r' := ⟨_, rfl⟩
        rw [hr'] at HE ⊢
        clear h7 t7 hD7 z1 z2 hr'
        go_wp2_with fail
        go_meet
        exact ⟨_, _, _, _, _, rfl, rfl, rfl, Lib.hid ⟨HE.out, HTK.out, HTB.out, fun _ => rfl⟩⟩
      by_cases d1 : k0 = 1
      · subst d1
        go_wp2_with fail
        refine (rall_any HW.out.1.one HW.out.1.ok).mono ?_
        rintro e w5 ⟨rfl, h5, t5⟩
        have hb5 := HW.out.2.2.1.touch t5 HW.out.2.2.2.1
        have z1 : w5.cell? ⟨wr.heap.size, 1, none⟩ = some (.int .i64 k1) := hb5.cell 1
        have z2 : w5.cell? ⟨wr.heap.size, 2, none⟩ = some (.int .i64 k2) := hb5.cell 2
        have h6 : DgAt w5 d r D := HW.out.1.two.touch t5 HW.out.1.ne.symm
        have H5 := Lib.hid (And.intro h5 (And.intro t5 h6))
        skip
        clear h5 t5 h6 hb5 s0 s1 s2 s3 c0 c1 c2 c3 d0
        go_wp2_with fail
        refine (dstep_any H5.out.2.2 HW.out.1.ok.state 2 T (.inr (.inr (.inl rfl))) HW.out.2.1).mono ?_
        rintro e w7 ⟨rfl, h7, t7⟩
        have hD7 := HW.out.1.due.step HW.out.1.ok.state 2 T (.inr (.inr (.inl rfl)))
        have HE := Lib.hid (HW.out.1.step H5.out.1 H5.out.2.1 h7 hD7 t7 (HW.out.1.ok.step HW.out.2.1.1 (.inr (.inr (.inl rfl)))))
        obtain ⟨r', hr'⟩ : ∃ r', stepR r 2 T = r' := ⟨_, rfl⟩
        rw [hr'] at HE
        clear h7 t7 hD7 z1 z2 hr'
        go_wp2_with fail
        go_meet
        exact ⟨_, _, _, _, _, rfl, rfl, rfl, Lib.hid ⟨HE.out, HTK.out, HTB.out, fun h => by cases h⟩⟩
      by_cases d2 : k0 = 2
      · subst d2
        go_wp2_with fail
        refine (rflush_any HW.out.1.one HW.out.1.ok).mono ?_
        rintro e w5 ⟨rfl, h5, t5⟩
        have hb5 := HW.out.2.2.1.touch t5 HW.out.2.2.2.1
        have z1 : w5.cell? ⟨wr.heap.size, 1, none⟩ = some (.int .i64 k1) := hb5.cell 1
        have z2 : w5.cell? ⟨wr.heap.size, 2, none⟩ = some (.int .i64 k2) := hb5.cell 2
        have h6 : DgAt w5 d r D := HW.out.1.two.touch t5 HW.out.1.ne.symm
        have H5 := Lib.hid (And.intro h5 (And.intro t5 h6))
        rw [HBQ.out]
        clear h5 t5 h6 hb5 s0 s1 s2 s3 c0 c1 c2 c3 d0 d1
        go_wp2_with fail
        refine (dstep_any H5.out.2.2 HW.out.1.ok.state 4 T (.inr (.inr (.inr (.inr rfl)))) HW.out.2.1).mono ?_
        rintro e w7 ⟨rfl, h7, t7⟩
        have hD7 := HW.out.1.due.step HW.out.1.ok.state 4 T (.inr (.inr (.inr (.inr rfl))))
        have HE := Lib.hid (HW.out.1.step H5.out.1 H5.out.2.1 h7 hD7 t7 (HW.out.1.ok.step HW.out.2.1.1 (.inr (.inr (.inr (.inr rfl))))))
        obtain ⟨r', hr'⟩ : ∃ r', stepR r 4 T = r' := ⟨_, rfl⟩
        rw [hr'] at HE ⊢
        clear h7 t7 hD7 z1 z2 hr'
        go_wp2_with fail
        go_meet
        exact ⟨_, _, _, _, _, rfl, rfl, rfl, Lib.hid ⟨HE.out, HTK.out, HTB.out, fun _ => rfl⟩⟩
      by_cases d3 : k0 = 3
      · subst d3
        obtain ⟨T', hT'⟩ : ∃ T', T + k3 = T' := ⟨_, rfl⟩
        have hn3 : 0 ≤ k3 ∧ k3 ≤ 1000 := HX.out.2 rfl
        have HT := Lib.hid (show Tk T' ∧ T ≤ T' ∧ 0 ≤ T' ∧ T' ≤ 1000 * ((j : Int) + 1) by
          have h1 := hS.out.2
          have h2 := HP.out.1
          unfold Tk
          omega)
        have hw : wrap64 (T + k3) = T' := by rw [hT']; exact IntWalk.wrap64_in _ (by have := HT.out.1; unfold Tk at this; omega)
        have HO := Lib.hid (HW.out.1.ok.more HT.out.2.1)
        clear hn3 hT' d0 d1 d2
        go_wp2_with fail
        refine (rtick_any HW.out.1.one HO.out HT.out.1).mono ?_
        rintro e w5 ⟨rfl, h5, t5⟩
        have h6 : DgAt w5 d r D := HW.out.1.two.touch t5 HW.out.1.ne.symm
        have H5 := Lib.hid (And.intro h5 (And.intro t5 h6))
        rw [HBQ.out]
        clear h5 t5 h6 s0 s1 s2 s3 c0 c1 c2 c3
        go_wp2_with fail
        refine (dtick_any H5.out.2.2 HO.out HT.out.1 HW.out.1.due).mono ?_
        rintro e w7 ⟨rfl, ⟨D', h7, hD7⟩, t7⟩
        have HE := Lib.hid (HW.out.1.step H5.out.1 H5.out.2.1 h7 hD7 t7 (HO.out.tick HT.out.1.1))
        obtain ⟨r', hr'⟩ : ∃ r', tickR r T' = r' := ⟨_, rfl⟩
        rw [hr'] at HE ⊢
        have HW2 := Lib.hid hw
        have HTB := Lib.hid HT.out.2.2
        have HTK := Lib.hid HT.out.1
        clear h7 t7 hD7 hr' hw
        go_wp2_with fail
        go_meet
        exact ⟨_, _, _, _, _, by first | rfl | rw [HW2.out], rfl, rfl, Lib.hid ⟨HE.out, HTK.out, HTB.out, fun _ => rfl⟩⟩
      by_cases d4 : k0 = 4
      · subst d4
        by_cases u0 : k3 < 0
        · skip
          have HE := Lib.hid HW.out.1
          have HSB := Lib.hid (rset_bad (w := W) (g := g) k3 (goodB_low u0))
          skip
          clear c0 c1 c2 c3 d0 d1 d2 d3
          go_wp2_with (go_at_call 19; (with_reducible (refine HSB.out.mono ?_)); rintro e w' ⟨rfl, rfl⟩)
          go_meet
          exact ⟨_, _, _, _, _, rfl, rfl, rfl, Lib.hid ⟨HE.out, HTK.out, HTB.out, fun h => by cases h⟩⟩
        by_cases u1 : 2 < k3
        · skip
          have HE := Lib.hid HW.out.1
          have HSB := Lib.hid (rset_bad (w := W) (g := g) k3 (goodB_high u1))
          have e5 : decide (k3 < 0) = false := decide_eq_false u0; clear u0
          clear c0 c1 c2 c3 d0 d1 d2 d3
          go_wp2_with (go_at_call 19; (with_reducible (refine HSB.out.mono ?_)); rintro e w' ⟨rfl, rfl⟩)
          go_meet
          exact ⟨_, _, _, _, _, rfl, rfl, rfl, Lib.hid ⟨HE.out, HTK.out, HTB.out, fun h => by cases h⟩⟩
        have e5 : decide (k3 < 0) = false := decide_eq_false u0
        have e6 : decide (2 < k3) = false := decide_eq_false u1
        have HGK := Lib.hid (dgoodB_of u0 u1)
        clear u0 u1 d0 d1 d2 d3
        go_wp2_with fail
        refine (rset_ok HW.out.1.one k3 HGK.out).mono ?_
        rintro e w5 ⟨rfl, h5, t5⟩
        have hb5 := HW.out.2.2.1.touch t5 HW.out.2.2.2.1
        have z3 : w5.cell? ⟨wr.heap.size, 3, none⟩ = some (.int .i64 k3) := hb5.cell 3
        have h6 : DgAt w5 d r D := HW.out.1.two.touch t5 HW.out.1.ne.symm
        have f6 := h6.frozen 0
        have p6 := h6.c0
        have h7 : DgAt (w5.setCell ⟨d, 0, none⟩ (.int .i64 k3)) d ⟨k3, r.state, r.born, r.left⟩ D := h6.set_ 0 _
        have t7 : Touch (fun k => k = d) w5 (w5.setCell ⟨d, 0, none⟩ (.int .i64 k3)) := (Touch.refl (fun k => k = d) w5).set_ (a := ⟨d, 0, none⟩) (fun _ => rfl) _
        have HE := Lib.hid (HW.out.1.step h5 t5 h7 HW.out.1.due t7 (show OkR T ⟨k3, r.state, r.born, r.left⟩ from ⟨by have := HGK.out; unfold goodB at this; rw [Bool.and_eq_true, decide_eq_true_eq, decide_eq_true_eq] at this; show k3 = 0 ∨ k3 = 1 ∨ k3 = 2; omega, HW.out.1.ok.state, HW.out.1.ok.born, HW.out.1.ok.left⟩))
        clear h5 t5 hb5 h6 h7 t7 s0 s1 s2 s3 c0 c1 c2 c3
        go_wp2_with fail
        go_meet
        exact ⟨_, _, _, _, _, rfl, rfl, rfl, Lib.hid ⟨HE.out, HTK.out, HTB.out, fun h => by cases h⟩⟩
      have f0 : (k0 == 0) = false := by simpa using d0
      have f1 : (k0 == 1) = false := by simpa using d1
      have f2 : (k0 == 2) = false := by simpa using d2
      have f3 : (k0 == 3) = false := by simpa using d3
      have f4 : (k0 == 4) = false := by simpa using d4
      have HE := Lib.hid HW.out.1
      clear d0 d1 d2 d3 d4
      go_wp2_with fail
      go_meet
      exact ⟨_, _, _, _, _, rfl, rfl, rfl, Lib.hid ⟨HE.out, HTK.out, HTB.out, fun _ => by rw [HBQ.out]; cases b0 <;> rfl⟩⟩
    case rest =>
      obtain ⟨r', D', T', u, v, rfl, rfl, rfl, hE⟩ := hcut
      have HE := Lib.hid hE.out.1
      have HTB := Lib.hid hE.out.2.2.1
      have huv := hE.out.2.2.2
      have hmd := HE.out.ok.mode
      have hst := HE.out.ok.state
      have p0 := HE.out.two.c0
      have p1 := HE.out.two.c1
      have p2 := HE.out.two.c2
      have HDV := Lib.hid (dhas_any HE.out.two HE.out.ok.state)
      have HQD := Lib.hid (fun q => flip_same (dhas_any (HE.out.drewN q).two HE.out.ok.state))
      have HQH := Lib.hid (fun q => flip_same (rhas_any (HE.out.drewN q).one))
      have HQB := Lib.hid (fun q => flip_same (rborn_any (HE.out.drewN q).one T'))
      have HQS := Lib.hid (fun q => flip_same (rstate_any (HE.out.drewN q).one))
      have HQM := Lib.hid (fun q => flip_same (rmode_any (HE.out.drewN q).one))
      have HQI := Lib.hid (fun q => flip_same (ridle_any (HE.out.drewN q).one))
      obtain ⟨bh, hbh⟩ : ∃ bh, hasR r' = bh := ⟨_, rfl⟩
      obtain ⟨bb, hbb⟩ : ∃ bb, bornR r' T' = bb := ⟨_, rfl⟩
      obtain ⟨bi, hbi⟩ : ∃ bi, idleR r' = bi := ⟨_, rfl⟩
      rw [hbh] at HDV HQD HQH huv
      rw [hbb] at HQB
      rw [hbi] at HQI
      have HIQ := Lib.hid hbi
      clear hE s0 s1 s2 s3 c0 c1 c2 c3
      obtain ⟨m', s', bo, lf⟩ := r'
      simp only at p0 p1 p2 hmd hst HQS HQM
      have HST2 := Lib.hid hst
      have HMD := Lib.hid hmd
      have HHB := Lib.hid (And.intro hbh hbb)
      clear hbh hbb hbi hst hmd
      go_upto_if 158 with (go_at_call 20; (with_reducible (refine HDV.out.mono ?_)); rintro e w' ⟨rfl, rfl⟩)
      go_cut [15] (fun bv wx => bv = .int .i64 bb ∧ wx = wc)
      case first =>
        have hmd := HMD.out
        have hst := HST2.out
        obtain ⟨hbh, hbb⟩ := HHB.out
        rcases hmd with rfl | rfl | rfl
        · by_cases hs0 : s' = 0
          · subst hs0
            obtain rfl : false = bh := hbh
            obtain rfl : -1 = bb := hbb
            go_wp2_with fail
            go_meet
            exact ⟨rfl, rfl⟩
          · obtain rfl : true = bh := by rw [← hbh]; rcases hst with rfl | rfl | rfl <;> first | exact absurd rfl hs0 | rfl
            obtain rfl : bo = bb := by rw [← hbb]; rcases hst with rfl | rfl | rfl <;> first | exact absurd rfl hs0 | rfl
            go_wp2_with fail
            go_meet
            exact ⟨rfl, rfl⟩
        · obtain rfl : true = bh := hbh
          obtain rfl : T' = bb := hbb
          go_wp2_with fail
          go_meet
          exact ⟨rfl, rfl⟩
        · obtain rfl : false = bh := hbh
          obtain rfl : -1 = bb := hbb
          go_wp2_with fail
          go_meet
          exact ⟨rfl, rfl⟩
      case rest =>
        obtain ⟨rfl, rfl⟩ := hcut
        by_cases hm0 : m' = 0
        · subst hm0
          obtain rfl : (s' == 0) = bi := by rw [← HIQ.out]; unfold idleR; rcases HST2.out with rfl | rfl | rfl <;> rfl
          cases v with
          | false =>
            clear huv
            as_aux_lemma =>
              go_wp2_with fail
              go_quiet (first | (go_at_call 20; exact Calls.quiet_of_same (HQD.out _)) | (go_at_call 14; exact Calls.quiet_of_same (HQH.out _)) | (go_at_call 15; exact Calls.quiet_of_same (HQB.out _)) | (go_at_call 16; exact Calls.quiet_of_same (HQS.out _)) | (go_at_call 17; exact Calls.quiet_of_same (HQM.out _)) | (go_at_call 18; exact Calls.quiet_of_same (HQI.out _)))
              go_wp2_with fail
              go_roundw
              case rel =>
                rw [HJ.out]
                exact HEND.out _ _ _ _ (HE.out.drewN _) HTB.out
              case measure =>
                rw [HJ.out]
                show n - ((j : Int) + 1).toNat < n - ((j : Int)).toNat
                omega
          | true =>
            have hu := huv rfl
            clear huv
            subst hu
            cases bh <;> cases b0
            all_goals
              as_aux_lemma =>
                go_wp2_with fail
                go_quiet (first | (go_at_call 20; exact Calls.quiet_of_same (HQD.out _)) | (go_at_call 14; exact Calls.quiet_of_same (HQH.out _)) | (go_at_call 15; exact Calls.quiet_of_same (HQB.out _)) | (go_at_call 16; exact Calls.quiet_of_same (HQS.out _)) | (go_at_call 17; exact Calls.quiet_of_same (HQM.out _)) | (go_at_call 18; exact Calls.quiet_of_same (HQI.out _)))
                go_wp2_with fail
                go_roundw
                case rel =>
                  rw [HJ.out]
                  exact HEND.out _ _ _ _ (HE.out.drewN _) HTB.out
                case measure =>
                  rw [HJ.out]
                  show n - ((j : Int) + 1).toNat < n - ((j : Int)).toNat
                  omega
        · obtain rfl : false = bi := by rw [← HIQ.out]; unfold idleR; rw [decide_eq_false hm0]; rfl
          have em : (m' == 0) = false := by simpa using hm0
          clear hm0
          cases v with
          | false =>
            clear huv
            as_aux_lemma =>
              go_wp2_with fail
              go_quiet (first | (go_at_call 20; exact Calls.quiet_of_same (HQD.out _)) | (go_at_call 14; exact Calls.quiet_of_same (HQH.out _)) | (go_at_call 15; exact Calls.quiet_of_same (HQB.out _)) | (go_at_call 16; exact Calls.quiet_of_same (HQS.out _)) | (go_at_call 17; exact Calls.quiet_of_same (HQM.out _)) | (go_at_call 18; exact Calls.quiet_of_same (HQI.out _)))
              go_wp2_with fail
              go_roundw
              case rel =>
                rw [HJ.out]
                exact HEND.out _ _ _ _ (HE.out.drewN _) HTB.out
              case measure =>
                rw [HJ.out]
                show n - ((j : Int) + 1).toNat < n - ((j : Int)).toNat
                omega
          | true =>
            have hu := huv rfl
            clear huv
            subst hu
            cases bh <;> cases b0
            all_goals
              as_aux_lemma =>
                go_wp2_with fail
                go_quiet (first | (go_at_call 20; exact Calls.quiet_of_same (HQD.out _)) | (go_at_call 14; exact Calls.quiet_of_same (HQH.out _)) | (go_at_call 15; exact Calls.quiet_of_same (HQB.out _)) | (go_at_call 16; exact Calls.quiet_of_same (HQS.out _)) | (go_at_call 17; exact Calls.quiet_of_same (HQM.out _)) | (go_at_call 18; exact Calls.quiet_of_same (HQI.out _)))
                go_wp2_with fail
                go_roundw
                case rel =>
                  rw [HJ.out]
                  exact HEND.out _ _ _ _ (HE.out.drewN _) HTB.out
                case measure =>
                  rw [HJ.out]
                  show n - ((j : Int) + 1).toNat < n - ((j : Int)).toNat
                  omega

set_option maxRecDepth 100000 in
theorem liftedRegisDoes (os : Os) (started : os.Started) (H : Type) (enc : TypeId × Value → H) :
    ReturnsInHanded {} Try.checked os 3 .any (Rows.regisDoesSpec.pre6 enc Try.prog Try.f3 Rows.regisDoesRow.domain false) (Rows.regisDoesSpec.post enc Try.prog Try.f3 false true false false) := by
  refine returnsInHanded_of_change (C := Try.checked) own started (by kernel_rfl) Try.func3
    (ChangeSpec.witness6 (enc := enc) (C := Try.checked) false ⟨#[], #[.int .i64 0, .slice none 0 0], []⟩ 8 (by kernel_rfl) (by kernel_rfl) (by kernel_rfl) (by kernel_rfl)) ?_
  intro W base args ds gs before hval0 hW hcnd _
  have hval : ∀ (j : Nat) t v, Try.f3.params[j]? = some t → args[j]? = some v → Value.okWide Try.prog W .any base t v := hval0
  have hW' := hW
  obtain ⟨p, q, hA0, hV, rfl, hfz, hnd⟩ := hW
  have hA : DataW.TrodAll enc Try.prog W 0 (fun _ => true) true Try.f3.params.toList args.toList ds p := hA0
  rw [Try.params3] at hA hval
  obtain ⟨v0, vs0, d0, ds0, p0, q0, hargs, rfl, rfl, h0, r0⟩ := trodAll_cons hA
  obtain ⟨v1, vs1, d1, ds1, p1, q1, rfl, rfl, rfl, h1, r1⟩ := trodAll_cons r0
  obtain ⟨rfl, rfl, rfl⟩ := trodAll_nil r1
  obtain rfl : args = #[v0, v1] := by cases args; simp_all
  obtain ⟨rfl, rfl⟩ := trodVars_none hV
  obtain ⟨a0, rfl, rfl, rfl, w0⟩ := open_int Try.underlying3 (hval 0 3 v0 rfl rfl) h0
  obtain ⟨a1', len1', cap1', rfl⟩ := okWide_slice Try.underlying22 (hval 1 22 v1 rfl rfl)
  have k1 := h1
  have lt1 : ∀ x ∈ p1, x.block < W.heap.size := by obtain ⟨m, hm⟩ := k1; exact DataW.trod_lt m _ _ _ hm
  obtain ⟨a1, cap1, l1, w1, e1, e2, e3⟩ : ∃ a cap, ∃ l : List St, (StAt W W.heap.size a l ∧ (∀ x ∈ l, x.ok) ∧ l.length ≤ maxLen) ∧ a1' = a ∧ len1' = l.length ∧ cap1' = cap := by
    obtain ⟨fuel, hf⟩ := h1
    obtain ⟨a, cap, l, hcs, q⟩ := open_steps hf
    simp [Value.cells] at hcs
    obtain ⟨rfl, rfl, rfl⟩ := hcs
    exact ⟨_, _, l, q, rfl, rfl, rfl⟩
  subst e1 e2 e3
  clear hA0 hval0
  refine (walkRegisDoes a0 a1' cap1' l1 W w0 w1).mono fun e W' ⟨he, bel⟩ => ?_
  subst he
  exact ⟨_, rfl, _, _, _, [], _, [], hW', trodAll_mk1 (shut_bool Try.underlying4 _), (trodAll_cons_mk (shut_int Try.underlying3 w0) (trodAll_cons_mk (Below.trod laidOut (by kernel_rfl) (of_decide_eq_true (by kernel_rfl)) k1 bel lt1) trodAll_mk0)), rfl, bel.frame _, fun h => by cases h⟩

theorem overRegisDoes : Rows.regisDoesRow.holds Try.pinned (OpenSpec.ofChange Rows.regisDoesSpec) :=
  OpenClaim.holds_of_wide 3 Try.f3 rfl rfl rfl rfl rfl rfl rfl ⟨rfl, rfl, rfl, rfl, rfl⟩ rfl rfl rfl rfl rfl (by kernel_rfl) Try.func3 (by kernel_rfl)
    (of_decide_eq_true (by kernel_rfl)) (by unfold Func.isWrapper; first | (rw [if_pos (by decide +kernel)]; kernel_rfl) | (rw [if_neg (by decide +kernel)]; exact ⟨rfl, rfl⟩))
    (fun os started H enc _ => liftedRegisDoes os started H enc)

/-- The statement. -/
theorem regisDoes_holds : Rows.RegisDoesSaid := overRegisDoes

#print axioms regisDoes_holds
end Go.Proofs.Ytoiapdcleagepaa
