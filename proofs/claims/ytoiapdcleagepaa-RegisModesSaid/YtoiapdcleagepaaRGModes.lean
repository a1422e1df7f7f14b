/- RegisModes: another mode changes nothing of what was heard. No condition. -/
import Derived.Test.YtoiapdcleagepaaRgAlive
import Derived.Test.YtoiapdcleagepaaRgSteps
namespace Go.Proofs.Ytoiapdcleagepaa
open Go.ChangeShapes Go.WideShapes Go.ChangeAt Go.RowKit Go.Deep
set_option maxRecDepth 100000

/-- The same in another mode. -/
def twin (m : Int) (r : Rg) : Rg := ⟨m, r.state, r.born, r.left⟩
theorem twin_step (m : Int) (r : Rg) (e T : Int) : stepR (twin m r) e T = twin m (stepR r e T) := rfl
theorem twin_join (m : Int) (r : Rg) (b T : Int) : joinR (twin m r) b T = twin m (joinR r b T) := by
  unfold joinR
  split <;> rfl
theorem twin_hear (m : Int) (r : Rg) (ev b T : Int) : hearR (twin m r) ev b T = twin m (hearR r ev b T) := by
  unfold hearR
  split
  · exact twin_join m r _ T
  · split <;> rfl
theorem twin_leave (m : Int) (r : Rg) (T : Int) : leaveR (twin m r) T = twin m (leaveR r T) := by
  unfold leaveR
  show (if r.state = 1 ∧ 24 ≤ T - r.left then _ else _) = _
  split <;> rfl
theorem twin_tick (m : Int) (r : Rg) (T : Int) : tickR (twin m r) T = twin m (tickR r T) := by
  unfold tickR
  rw [twin_leave]
  unfold ageR
  show (if (leaveR r T).state ≠ 0 ∧ 120 < T - (leaveR r T).born then _ else _) = _
  split <;> rfl
theorem hear_mode (r : Rg) (ev b T : Int) : (hearR r ev b T).mode = r.mode := by
  unfold hearR joinR
  repeat' split
  all_goals rfl
theorem tick_mode (r : Rg) (T : Int) : (tickR r T).mode = r.mode := by
  unfold tickR ageR leaveR
  repeat' split
  all_goals rfl
theorem OkR.twin {T : Int} {r : Rg} (h : OkR T r) {m : Int} (hm : m = 0 ∨ m = 1 ∨ m = 2) : OkR T (twin m r) := ⟨hm, h.state, h.born, h.left⟩
theorem goodB_of {m : Int} (h0 : ¬ m < 0) (h2 : ¬ 2 < m) : goodB m = true := by
  unfold goodB
  rw [decide_eq_true (by omega : 0 ≤ m), decide_eq_true (by omega : m ≤ 2)]
  rfl
/-- Both, and all else below as it was. -/
structure Both (w0 w : World) (g1 g2 : Nat) (m : Int) (r : Rg) : Prop where
  one : RgAt w g1 r
  two : RgAt w g2 (twin m r)
  ne : g1 ≠ g2
  low : w0.heap.size ≤ g1 ∧ w0.heap.size ≤ g2
  bel : Below w0.heap.size w0 w
theorem Both.step {w0 w w1 w2 : World} {g1 g2 : Nat} {m : Int} {r r' : Rg} (h : Both w0 w g1 g2 m r) (h1 : RgAt w1 g1 r') (t1 : Touch (fun k => k = g1) w w1) (h2 : RgAt w2 g2 (twin m r')) (t2 : Touch (fun k => k = g2) w1 w2) : Both w0 w2 g1 g2 m r' :=
  ⟨h1.touch t2 h.ne, h2, h.ne, h.low, below_reg (below_reg h.bel t1 h.low.1) t2 h.low.2⟩
theorem Both.alloc {w0 w : World} {g1 g2 : Nat} {m : Int} {r : Rg} (h : Both w0 w g1 g2 m r) (o : Obj) : Both w0 (w.alloc o) g1 g2 m r := ⟨Blk.alloc h.one o, Blk.alloc h.two o, h.ne, h.low, h.bel.alloc h.bel.size o⟩
set_option maxHeartbeats 8000000 in
theorem walkRegisModes (A : Option Addr) (c : Nat) (l : List St) (mode : Int) (w : World) (hl : StAt w w.heap.size A l ∧ (∀ x ∈ l, x.ok) ∧ l.length ≤ maxLen) (_hm : (Lit.int .i64 mode).wf = true) :
    Calls Try.prog 7 #[.slice A l.length c, .int .i64 mode] w fun e w' => e = .returned (.bool true) ∧ Below w.heap.size w w' := by
  have HAL := Lib.hid (ralive_any w)
  have HG := Lib.hid (fun w (h : StAt w w.heap.size A l) => sgreat_any A c l w h hl.2.2)
  have HL := Lib.hid hl
  obtain ⟨n, hn⟩ : ∃ n, l.length = n := ⟨_, rfl⟩
  rw [hn] at HG ⊢
  have HN := Lib.hid hn
  have n0 : (0 : Int) ≤ n := by omega
  clear hl hn _hm
  go_enter Try.func7, Try.ntmps7
  go_wp2_with fail
  refine HAL.out.mono ?_
  rintro e w1 ⟨rfl, b1⟩
  have HGG := Lib.hid (HG.out w1 ((HL.out.1.below b1).more b1.size))
  have HB1 := Lib.hid b1
  clear b1
  by_cases q0 : mode < 0
  · go_wp2_with fail
    refine HGG.out.mono ?_
    rintro e w2 (⟨rfl, b2⟩ | ⟨rfl, _, b2⟩)
    all_goals
      have hf := HB1.out.trans (b2.mono HB1.out.size)
      clear b2
      go_wp2_with fail
      go_ret
      exact ⟨rfl, hf⟩
  have e0 : decide (mode < 0) = false := decide_eq_false q0
  by_cases q1 : 2 < mode
  · go_wp2_with fail
    refine HGG.out.mono ?_
    rintro e w2 (⟨rfl, b2⟩ | ⟨rfl, _, b2⟩)
    all_goals
      have hf := HB1.out.trans (b2.mono HB1.out.size)
      clear b2
      go_wp2_with fail
      go_ret
      exact ⟨rfl, hf⟩
  have e1 : decide (2 < mode) = false := decide_eq_false q1
  have HGB := Lib.hid (goodB_of q0 q1)
  have HMO := Lib.hid (show mode = 0 ∨ mode = 1 ∨ mode = 2 by omega)
  clear q0 q1
  go_wp2_with fail
  refine HGG.out.mono ?_
  rintro e w2 (⟨rfl, b2⟩ | ⟨rfl, ⟨hn100, hpl⟩, b2⟩)
  · have hf := HB1.out.trans (b2.mono HB1.out.size)
    clear b2
    go_wp2_with fail
    go_ret
    exact ⟨rfl, hf⟩
  have HP := Lib.hid (And.intro hn100 (And.intro hpl (HB1.out.trans (b2.mono HB1.out.size))))
  clear b2 hn100 hpl
  go_wp2_with fail
  refine (rnew_ok 0 rfl _).mono ?_
  rintro e w3 ⟨g1, rfl, h3, b3, hg1⟩
  have H3 := Lib.hid (And.intro h3 (And.intro b3 hg1))
  clear h3 b3 hg1
  go_wp2_with fail
  refine (rnew_ok mode HGB.out _).mono ?_
  rintro e w4 ⟨g2, rfl, h4, b4, hg2⟩
  have HST := Lib.hid (show Both w w4 g1 g2 mode ⟨0, 0, 0, 0⟩ from by
    have hb := HP.out.2.2.trans (H3.out.2.1.mono HP.out.2.2.size)
    have := H3.out.1.lt
    have := H3.out.2.2
    have := HP.out.2.2.size
    exact ⟨H3.out.1.below b4 H3.out.1.lt, h4, by omega, ⟨by omega, by omega⟩, hb.trans (b4.mono hb.size)⟩)
  clear h4 b4 hg2
  go_wp2_with fail
  go_loopw [9, 35] (fun nv iv wr => ∃ (j : Nat) (r : Rg) (T : Int), j ≤ n ∧ iv = .int .i64 j ∧ nv = .int .i64 T ∧ Hid (Both w wr g1 g2 mode r ∧ r.mode = 0 ∧ OkR T r ∧ (0 ≤ T ∧ T ≤ 1000 * j))) (fun _ iv _ => n - (intOf iv).toNat)
  case atStart => exact ⟨0, _, 0, Nat.zero_le _, rfl, rfl, Lib.hid ⟨HST.out, rfl, okR_new rfl (Int.le_refl _), ⟨Int.le_refl _, Int.le_refl _⟩⟩⟩
  case round =>
    obtain ⟨j, r, T, hj, rfl, rfl, hS⟩ := hrel
    by_cases hlt : j < n
    rotate_left
    · have hok := hS.out.2.2.1
      have h1 := hS.out.1.one
      have h2 := hS.out.1.two
      have HM2 := Lib.hid (rmode_any h2)
      have HSE := Lib.hid (rset_ok h2 0 rfl)
      have HHA := Lib.hid (fun (V : World) (g : Nat) (h : RgAt V g r) => rhas_any h)
      have HST2 := Lib.hid (fun (V : World) (g : Nat) (h : RgAt V g r) => rstate_any h)
      have HBO := Lib.hid (fun (V : World) (g : Nat) (h : RgAt V g r) => rborn_any h T)
      obtain ⟨bh, hbh⟩ : ∃ bh, hasR r = bh := ⟨_, rfl⟩
      obtain ⟨bo, hbo⟩ : ∃ bo, bornR r T = bo := ⟨_, rfl⟩
      obtain ⟨bs, hbs⟩ : ∃ bs, r.state = bs := ⟨_, rfl⟩
      rw [hbh] at HHA
      rw [hbo] at HBO
      rw [hbs] at HST2
      have hmz := hS.out.2.1
      have HR := Lib.hid (fun (w5 : World) (h5 : RgAt w5 g2 ⟨0, (twin mode r).state, (twin mode r).born, (twin mode r).left⟩) (t5 : Touch (fun k => k = g2) wr w5) => show RgAt w5 g1 r ∧ RgAt w5 g2 r ∧ Below w.heap.size w w5 from ⟨hS.out.1.one.touch t5 hS.out.1.ne, by
        have e : (⟨0, (twin mode r).state, (twin mode r).born, (twin mode r).left⟩ : Rg) = r := by
          obtain ⟨m, s, b, lf⟩ := r
          simp only at hmz
          subst hmz
          rfl
        rw [e] at h5
        exact h5, below_reg hS.out.1.bel t5 hS.out.1.low.2⟩)
      clear hok h1 h2 hbh hbo hbs hmz
      go_wp2_with (first
        | (go_at_call 17; (with_reducible (refine HM2.out.mono ?_)); rintro e w' ⟨rfl, rfl⟩)
        | (go_at_call 19; (with_reducible (refine HSE.out.mono ?_)); rintro e w5 ⟨rfl, h5, t5⟩; obtain ⟨k1, k2, bw⟩ := HR.out w5 h5 t5)
        | (go_at_call 16; (with_reducible (refine (HST2.out _ _ k1).mono ?_)); rintro e w' ⟨rfl, rfl⟩)
        | (go_at_call 16; (with_reducible (refine (HST2.out _ _ k2).mono ?_)); rintro e w' ⟨rfl, rfl⟩)
        | (go_at_call 14; (with_reducible (refine (HHA.out _ _ k1).mono ?_)); rintro e w' ⟨rfl, rfl⟩)
        | (go_at_call 14; (with_reducible (refine (HHA.out _ _ k2).mono ?_)); rintro e w' ⟨rfl, rfl⟩)
        | (go_at_call 15; (with_reducible (refine (HBO.out _ _ k1).mono ?_)); rintro e w' ⟨rfl, rfl⟩)
        | (go_at_call 15; (with_reducible (refine (HBO.out _ _ k2).mono ?_)); rintro e w' ⟨rfl, rfl⟩))
      go_ret
      exact ⟨by simp, bw⟩
    have j1 : (j : Int) < n := by omega
    have j0 : (0 : Int) ≤ j := by omega
    have HJ := Lib.hid (show wrap64 ((j : Int) + 1) = (j : Int) + 1 from IntWalk.wrap64_in _ (by have := HP.out.1; omega))
    have hj' : j < l.length := by rw [HN.out]; exact hlt
    obtain ⟨b, off, rfl, hbl, hc⟩ := HL.out.1 j hj'
    have hc := hc.below hS.out.1.bel hbl
    have hxo := HL.out.2.1 (l.getD j st0) (by rw [List.getD_eq_getElem?_getD, List.getElem?_eq_getElem hj']; exact List.getElem_mem hj')
    have hwt := HP.out.2.1 j hlt
    obtain ⟨x, hx⟩ : ∃ x, l.getD j st0 = x := ⟨_, rfl⟩
    rw [hx] at hc hxo hwt
    obtain ⟨k0, k1, k2, k3⟩ := x
    obtain ⟨c0, c1, c2, c3⟩ := hc
    obtain ⟨W, hW⟩ : ∃ W, wr.alloc (.cells #[.int .i64 k0, .int .i64 k1, .int .i64 k2, .int .i64 k3] 38) = W := ⟨_, rfl⟩
    have hbk : Blk W wr.heap.size 38 #[.int .i64 k0, .int .i64 k1, .int .i64 k2, .int .i64 k3] := by rw [← hW]; exact Blk.new _ _ _
    have hBW : Both w W g1 g2 mode r := by rw [← hW]; exact hS.out.1.alloc _
    have hne : wr.heap.size ≠ g1 ∧ wr.heap.size ≠ g2 := by have := hS.out.1.one.lt; have := hS.out.1.two.lt; omega
    have hTk : Tk T := ⟨hS.out.2.2.2.1, by have := hS.out.2.2.2.2; have := HP.out.1; omega⟩
    have HX := Lib.hid (And.intro hxo hwt)
    have HW := Lib.hid (And.intro hBW (And.intro hTk (And.intro hbk hne)))
    have s0 : W.cell? ⟨wr.heap.size, 0, none⟩ = some (.int .i64 k0) := hbk.cell 0
    have s1 : W.cell? ⟨wr.heap.size, 1, none⟩ = some (.int .i64 k1) := hbk.cell 1
    have s2 : W.cell? ⟨wr.heap.size, 2, none⟩ = some (.int .i64 k2) := hbk.cell 2
    have s3 : W.cell? ⟨wr.heap.size, 3, none⟩ = some (.int .i64 k3) := hbk.cell 3
    have HEND := Lib.hid (fun (V : World) (r' : Rg) (T' : Int) (h : Both w V g1 g2 mode r') (hm : r'.mode = 0) (ho : OkR T' r') (hT : 0 ≤ T' ∧ T' ≤ 1000 * ((j : Int) + 1)) => show ∃ (j' : Nat) (r : Rg) (T : Int), j' ≤ n ∧ Value.int .i64 ((j : Int) + 1) = .int .i64 j' ∧ Value.int .i64 T' = .int .i64 T ∧ Hid (Both w V g1 g2 mode r ∧ r.mode = 0 ∧ OkR T r ∧ (0 ≤ T ∧ T ≤ 1000 * j')) from
      ⟨j + 1, r', T', hlt, by rw [Int.natCast_add]; rfl, rfl, Lib.hid ⟨h, hm, ho, hT.1, by have := hT.2; omega⟩⟩)
    clear hbl hx hxo hwt hj' hj hbk hBW hne hTk
    by_cases d0 : k0 = 0
    · subst d0
      have HE2 := Lib.hid (twin_hear mode r k1 k2 T)
      go_wp2_with fail
      refine (rhear_any HW.out.1.one hS.out.2.2.1 HW.out.2.1 k1 k2).mono ?_
      rintro e w5 ⟨rfl, h5, t5⟩
      have hb5 := HW.out.2.2.1.touch t5 HW.out.2.2.2.1
      have z1 : w5.cell? ⟨wr.heap.size, 1, none⟩ = some (.int .i64 k1) := hb5.cell 1
      have z2 : w5.cell? ⟨wr.heap.size, 2, none⟩ = some (.int .i64 k2) := hb5.cell 2
      have h6 : RgAt w5 g2 (twin mode r) := HW.out.1.two.touch t5 HW.out.1.ne.symm
      have H5 := Lib.hid (And.intro h5 (And.intro t5 h6))
      clear h5 t5 h6 hb5 s0 s1 s2 s3
      go_wp2_with fail
      refine (rhear_any H5.out.2.2 (hS.out.2.2.1.twin HMO.out) HW.out.2.1 k1 k2).mono ?_
      rintro e w7 ⟨rfl, h7, t7⟩
      rw [HE2.out] at h7
      have HE := Lib.hid (And.intro (HW.out.1.step H5.out.1 H5.out.2.1 h7 t7) (And.intro (show (hearR r k1 k2 T).mode = 0 from by rw [hear_mode]; exact hS.out.2.1) (And.intro (hS.out.2.2.1.hear HW.out.2.1.1 k1 k2) (show 0 ≤ T ∧ T ≤ 1000 * ((j : Int) + 1) from ⟨hS.out.2.2.2.1, by have := hS.out.2.2.2.2; omega⟩))))
      clear h7 t7 z1 z2
      go_wp2_with fail
      go_roundw
      case rel =>
        rw [HJ.out]
        exact HEND.out _ _ _ HE.out.1 HE.out.2.1 HE.out.2.2.1 HE.out.2.2.2
      case measure =>
        rw [HJ.out]
        show n - ((j : Int) + 1).toNat < n - ((j : Int)).toNat
        omega
    by_cases d1 : k0 = 1
    · subst d1
      have HE2 := Lib.hid (twin_step mode r 2 T)
      go_wp2_with fail
      refine (rall_any HW.out.1.one hS.out.2.2.1).mono ?_
      rintro e w5 ⟨rfl, h5, t5⟩
      have hb5 := HW.out.2.2.1.touch t5 HW.out.2.2.2.1
      have z1 : w5.cell? ⟨wr.heap.size, 1, none⟩ = some (.int .i64 k1) := hb5.cell 1
      have z2 : w5.cell? ⟨wr.heap.size, 2, none⟩ = some (.int .i64 k2) := hb5.cell 2
      have h6 : RgAt w5 g2 (twin mode r) := HW.out.1.two.touch t5 HW.out.1.ne.symm
      have H5 := Lib.hid (And.intro h5 (And.intro t5 h6))
      clear h5 t5 h6 hb5 s0 s1 s2 s3
      go_wp2_with fail
      refine (rall_any H5.out.2.2 (hS.out.2.2.1.twin HMO.out)).mono ?_
      rintro e w7 ⟨rfl, h7, t7⟩
      rw [HE2.out] at h7
      have HE := Lib.hid (And.intro (HW.out.1.step H5.out.1 H5.out.2.1 h7 t7) (And.intro (show (stepR r 2 T).mode = 0 from hS.out.2.1) (And.intro (hS.out.2.2.1.step HW.out.2.1.1 (.inr (.inr (.inl rfl)))) (show 0 ≤ T ∧ T ≤ 1000 * ((j : Int) + 1) from ⟨hS.out.2.2.2.1, by have := hS.out.2.2.2.2; omega⟩))))
      clear h7 t7 z1 z2
      go_wp2_with fail
      go_roundw
      case rel =>
        rw [HJ.out]
        exact HEND.out _ _ _ HE.out.1 HE.out.2.1 HE.out.2.2.1 HE.out.2.2.2
      case measure =>
        rw [HJ.out]
        show n - ((j : Int) + 1).toNat < n - ((j : Int)).toNat
        omega
    by_cases d2 : k0 = 2
    · subst d2
      have HE2 := Lib.hid (twin_step mode r 4 T)
      go_wp2_with fail
      refine (rflush_any HW.out.1.one hS.out.2.2.1).mono ?_
      rintro e w5 ⟨rfl, h5, t5⟩
      have hb5 := HW.out.2.2.1.touch t5 HW.out.2.2.2.1
      have z1 : w5.cell? ⟨wr.heap.size, 1, none⟩ = some (.int .i64 k1) := hb5.cell 1
      have z2 : w5.cell? ⟨wr.heap.size, 2, none⟩ = some (.int .i64 k2) := hb5.cell 2
      have h6 : RgAt w5 g2 (twin mode r) := HW.out.1.two.touch t5 HW.out.1.ne.symm
      have H5 := Lib.hid (And.intro h5 (And.intro t5 h6))
      clear h5 t5 h6 hb5 s0 s1 s2 s3
      go_wp2_with fail
      refine (rflush_any H5.out.2.2 (hS.out.2.2.1.twin HMO.out)).mono ?_
      rintro e w7 ⟨rfl, h7, t7⟩
      rw [HE2.out] at h7
      have HE := Lib.hid (And.intro (HW.out.1.step H5.out.1 H5.out.2.1 h7 t7) (And.intro (show (stepR r 4 T).mode = 0 from hS.out.2.1) (And.intro (hS.out.2.2.1.step HW.out.2.1.1 (.inr (.inr (.inr (.inr rfl))))) (show 0 ≤ T ∧ T ≤ 1000 * ((j : Int) + 1) from ⟨hS.out.2.2.2.1, by have := hS.out.2.2.2.2; omega⟩))))
      clear h7 t7 z1 z2
      go_wp2_with fail
      go_roundw
      case rel =>
        rw [HJ.out]
        exact HEND.out _ _ _ HE.out.1 HE.out.2.1 HE.out.2.2.1 HE.out.2.2.2
      case measure =>
        rw [HJ.out]
        show n - ((j : Int) + 1).toNat < n - ((j : Int)).toNat
        omega
    by_cases d3 : k0 = 3
    · subst d3
      obtain ⟨T', hT'⟩ : ∃ T', T + k3 = T' := ⟨_, rfl⟩
      have hn3 := HX.out.2 rfl
      simp only at hn3
      have HT := Lib.hid (show Tk T' ∧ T ≤ T' ∧ 0 ≤ T' ∧ T' ≤ 1000 * ((j : Int) + 1) by
        have h1 := hS.out.2.2.2
        have h2 := HP.out.1
        unfold Tk
        omega)
      have hw : wrap64 (T + k3) = T' := by rw [hT']; exact IntWalk.wrap64_in _ (by have := HT.out.1; unfold Tk at this; omega)
      have HE2 := Lib.hid (twin_tick mode r T')
      have HO := Lib.hid (hS.out.2.2.1.more HT.out.2.1)
      clear hn3 hT'
      go_wp2_with fail
      refine (rtick_any HW.out.1.one HO.out HT.out.1).mono ?_
      rintro e w5 ⟨rfl, h5, t5⟩
      have h6 : RgAt w5 g2 (twin mode r) := HW.out.1.two.touch t5 HW.out.1.ne.symm
      have H5 := Lib.hid (And.intro h5 (And.intro t5 h6))
      clear h5 t5 h6 s0 s1 s2 s3
      go_wp2_with fail
      refine (rtick_any H5.out.2.2 (HO.out.twin HMO.out) HT.out.1).mono ?_
      rintro e w7 ⟨rfl, h7, t7⟩
      rw [HE2.out] at h7
      have HE := Lib.hid (And.intro (HW.out.1.step H5.out.1 H5.out.2.1 h7 t7) (And.intro (show (tickR r T').mode = 0 from by rw [tick_mode]; exact hS.out.2.1) (And.intro (HO.out.tick HT.out.1.1) HT.out.2.2)))
      clear h7 t7
      go_wp2_with fail
      go_roundw
      case rel =>
        rw [HJ.out]
        exact HEND.out _ _ _ HE.out.1 HE.out.2.1 HE.out.2.2.1 HE.out.2.2.2
      case measure =>
        rw [HJ.out]
        show n - ((j : Int) + 1).toNat < n - ((j : Int)).toNat
        omega
    have f0 : (k0 == 0) = false := by simpa using d0
    have f1 : (k0 == 1) = false := by simpa using d1
    have f2 : (k0 == 2) = false := by simpa using d2
    have f3 : (k0 == 3) = false := by simpa using d3
    have HE := Lib.hid (And.intro HW.out.1 (And.intro hS.out.2.1 (And.intro hS.out.2.2.1 (show 0 ≤ T ∧ T ≤ 1000 * ((j : Int) + 1) from ⟨hS.out.2.2.2.1, by have := hS.out.2.2.2.2; omega⟩))))
    clear d0 d1 d2 d3
    go_wp2_with fail
    go_roundw
    case rel =>
      rw [HJ.out]
      exact HEND.out _ _ _ HE.out.1 HE.out.2.1 HE.out.2.2.1 HE.out.2.2.2
    case measure =>
      rw [HJ.out]
      show n - ((j : Int) + 1).toNat < n - ((j : Int)).toNat
      omega

set_option maxRecDepth 100000 in
theorem liftedRegisModes (os : Os) (started : os.Started) (H : Type) (enc : TypeId × Value → H) :
    ReturnsInHanded {} Try.checked os 7 .any (Rows.regisModesSpec.pre6 enc Try.prog Try.f7 Rows.regisModesRow.domain false) (Rows.regisModesSpec.post enc Try.prog Try.f7 false true false false) := by
  refine returnsInHanded_of_change (C := Try.checked) own started (by kernel_rfl) Try.func7
    (ChangeSpec.witness6 (enc := enc) (C := Try.checked) false ⟨#[], #[.slice none 0 0, .int .i64 0], []⟩ 8 (by kernel_rfl) (by kernel_rfl) (by kernel_rfl) (by kernel_rfl)) ?_
  intro W base args ds gs before hval0 hW hcnd _
  have hval : ∀ (j : Nat) t v, Try.f7.params[j]? = some t → args[j]? = some v → Value.okWide Try.prog W .any base t v := hval0
  have hW' := hW
  obtain ⟨p, q, hA0, hV, rfl, hfz, hnd⟩ := hW
  have hA : DataW.TrodAll enc Try.prog W 0 (fun _ => true) true Try.f7.params.toList args.toList ds p := hA0
  rw [Try.params7] at hA hval
  obtain ⟨v0, vs0, d0, ds0, p0, q0, hargs, rfl, rfl, h0, r0⟩ := trodAll_cons hA
  obtain ⟨v1, vs1, d1, ds1, p1, q1, rfl, rfl, rfl, h1, r1⟩ := trodAll_cons r0
  obtain ⟨rfl, rfl, rfl⟩ := trodAll_nil r1
  obtain rfl : args = #[v0, v1] := by cases args; simp_all
  obtain ⟨rfl, rfl⟩ := trodVars_none hV
  obtain ⟨a0', len0', cap0', rfl⟩ := okWide_slice Try.underlying22 (hval 0 22 v0 rfl rfl)
  have k0 := h0
  have lt0 : ∀ x ∈ p0, x.block < W.heap.size := by obtain ⟨m, hm⟩ := k0; exact DataW.trod_lt m _ _ _ hm
  obtain ⟨a0, cap0, l0, w0, e1, e2, e3⟩ : ∃ a cap, ∃ l : List St, (StAt W W.heap.size a l ∧ (∀ x ∈ l, x.ok) ∧ l.length ≤ maxLen) ∧ a0' = a ∧ len0' = l.length ∧ cap0' = cap := by
    obtain ⟨fuel, hf⟩ := h0
    obtain ⟨a, cap, l, hcs, q⟩ := open_steps hf
    simp [Value.cells] at hcs
    obtain ⟨rfl, rfl, rfl⟩ := hcs
    exact ⟨_, _, l, q, rfl, rfl, rfl⟩
  subst e1 e2 e3
  obtain ⟨a1, rfl, rfl, rfl, w1⟩ := open_int Try.underlying3 (hval 1 3 v1 rfl rfl) h1
  clear hA0 hval0
  refine (walkRegisModes a0' cap0' l0 a1 W w0 w1).mono fun e W' ⟨he, bel⟩ => ?_
  subst he
  exact ⟨_, rfl, _, _, _, [], _, [], hW', trodAll_mk1 (shut_bool Try.underlying4 _), (trodAll_cons_mk (Below.trod laidOut (by kernel_rfl) (of_decide_eq_true (by kernel_rfl)) k0 bel lt0) (trodAll_cons_mk (shut_int Try.underlying3 w1) trodAll_mk0)), rfl, bel.frame _, fun h => by cases h⟩

theorem overRegisModes : Rows.regisModesRow.holds Try.pinned (OpenSpec.ofChange Rows.regisModesSpec) :=
  OpenClaim.holds_of_wide 7 Try.f7 rfl rfl rfl rfl rfl rfl rfl ⟨rfl, rfl, rfl, rfl, rfl⟩ rfl rfl rfl rfl rfl (by kernel_rfl) Try.func7 (by kernel_rfl)
    (of_decide_eq_true (by kernel_rfl)) (by unfold Func.isWrapper; first | (rw [if_pos (by decide +kernel)]; kernel_rfl) | (rw [if_neg (by decide +kernel)]; exact ⟨rfl, rfl⟩))
    (fun os started H enc _ => liftedRegisModes os started H enc)

/-- The statement. -/
theorem regisModes_holds : Rows.RegisModesSaid := overRegisModes

#print axioms regisModes_holds
end Go.Proofs.Ytoiapdcleagepaa
