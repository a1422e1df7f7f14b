/- TreeSays: what a bridge's part says can be, is of the bridge itself, and of no root but one that it holds. No condition. -/
import Derived.Test.YtonkmbnnbpbhiaaTplay
import Derived.Test.YtonkmbnnbpbhiaaFrame
namespace Go.Proofs.Ytonkmbnnbpbhiaa
open Go.ChangeShapes Go.WideShapes Go.ChangeAt Go.RowKit Go.Deep
set_option maxRecDepth 100000

set_option maxHeartbeats 8000000 in
theorem walkTreeSays (id p : Int) (A : Option Addr) (c : Nat) (l : List St) (w : World) (hid : (Lit.int .i64 id).wf = true) (_hp : (Lit.int .i64 p).wf = true) (hl : StAt w w.heap.size A l ∧ (∀ x ∈ l, x.ok) ∧ l.length ≤ maxLen) :
    Calls Try.prog 4 #[.int .i64 id, .int .i64 p, .slice A l.length c] w fun e w' => e = .returned (.bool true) ∧ Below w.heap.size w w' := by
  have hi := (wf_in hid).2
  have HAL := Lib.hid (talive_any w)
  have HG := Lib.hid (fun w (h : StAt w w.heap.size A l) => tgreat_any A c l w h hl.2.2)
  have HL := Lib.hid hl
  obtain ⟨n, hn⟩ : ∃ n, l.length = n := ⟨_, rfl⟩
  rw [hn] at HG ⊢
  have HN := Lib.hid hn
  have HBR := Lib.hid (fun w => rbridge_any id hi w)
  have HI := Lib.hid hi
  have n0 : (0 : Int) ≤ n := by omega
  clear hl hn hid _hp hi
  go_enter Try.func4, Try.ntmps4
  go_wp2_with fail
  refine HAL.out.mono ?_
  rintro e w1 ⟨rfl, b1⟩
  have hs1 : StAt w1 w1.heap.size A l := fun k hk => by
    obtain ⟨b, off, e, hb, hc⟩ := HL.out.1 k hk
    exact ⟨b, off, e, Nat.lt_of_lt_of_le hb b1.size, hc.below b1 hb⟩
  have HGG := Lib.hid (HG.out w1 hs1)
  have HB1 := Lib.hid b1
  clear hs1 b1
  go_wp2_with fail
  refine HGG.out.mono ?_
  rintro e w2 (⟨rfl, b2⟩ | ⟨rfl, ⟨hn100, hpl⟩, b2⟩)
  · have hf := HB1.out.trans (b2.mono HB1.out.size)
    clear b2
    go_wp2_with fail
    go_ret
    exact ⟨rfl, hf⟩
  have HP := Lib.hid (And.intro hn100 (And.intro hpl (HB1.out.trans (b2.mono HB1.out.size))))
  clear b2 hn100 hpl
  by_cases hbr : nameB id = true
  rotate_left
  · have hbr : nameB id = false := by cases h : nameB id <;> simp_all
    rw [hbr] at HBR
    clear hbr
    go_wp2_with (go_at_call 11; refine (HBR.out _).mono ?_; rintro e w' ⟨rfl, rfl⟩)
    go_ret
    exact ⟨rfl, HP.out.2.2⟩
  rw [hbr] at HBR
  have HID := Lib.hid hbr
  clear hbr
  by_cases hp1 : p < 1
  · go_wp2_with (go_at_call 11; refine (HBR.out _).mono ?_; rintro e w' ⟨rfl, rfl⟩)
    go_ret
    exact ⟨rfl, HP.out.2.2⟩
  by_cases hp6 : 6 < p
  · have d1 : decide (p < 1) = false := decide_eq_false hp1
    clear hp1
    go_wp2_with (go_at_call 11; refine (HBR.out _).mono ?_; rintro e w' ⟨rfl, rfl⟩)
    go_ret
    exact ⟨rfl, HP.out.2.2⟩
  obtain ⟨m, rfl⟩ : ∃ m : Nat, p = m := ⟨p.toNat, by omega⟩
  have d1 : decide ((m : Int) < 1) = false := decide_eq_false hp1
  have d6 : decide (6 < (m : Int)) = false := decide_eq_false hp6
  have HM := Lib.hid (show 1 ≤ m ∧ m ≤ 6 by omega)
  have HNW := Lib.hid (tnew_ok id m HI.out HID.out HM.out.1 HM.out.2)
  have m0 : (0 : Int) ≤ m := by omega
  clear hp1 hp6
  go_wp2_with (first | (go_at_call 11; refine (HBR.out _).mono ?_; rintro e w' ⟨rfl, rfl⟩) | (go_at_call 10; refine (HNW.out _).mono ?_; rintro e w3 ⟨g, gp, rfl, h3, b3, hg, hgp⟩))
  have HGP := Lib.hid (show w.heap.size ≤ g ∧ w.heap.size ≤ gp by have := HP.out.2.2.size; omega)
  have HST := Lib.hid (And.intro h3 (HP.out.2.2.trans (b3.mono HP.out.2.2.size)))
  clear h3 b3 hg hgp
  go_loopw [8, 37] (fun nv iv wr => ∃ (j : Nat) (f : Nat → Pt) (fw : Nat → Bool) (ch T : Int), j ≤ n ∧ iv = .int .i64 j ∧ nv = .int .i64 T ∧ Hid (TreeW wr g gp id m f fw ch ∧ POk T m f ∧ SaysOk m f ∧ (ch = -1 ∨ 0 ≤ ch ∧ ch ≤ T) ∧ (0 ≤ T ∧ T ≤ 1000 * j) ∧ Below w.heap.size w wr)) (fun _ iv _ => n - (intOf iv).toNat)
  case atStart => exact ⟨0, fun _ => ptN, fun _ => false, -1, 0, Nat.zero_le _, rfl, rfl, Lib.hid ⟨HST.out.1, ptN_okm m, SaysOk.new m, .inl rfl, ⟨Int.le_refl _, Int.le_refl _⟩, HST.out.2⟩⟩
  case round =>
    obtain ⟨j, f, fw, ch, T, hj, rfl, rfl, hS⟩ := hrel
    by_cases hlt : j < n
    rotate_left
    · go_wp2_with fail
      go_ret
      exact ⟨rfl, hS.out.2.2.2.2.2⟩
    have j1 : (j : Int) < n := by omega
    have j0 : (0 : Int) ≤ j := by omega
    have HJ := Lib.hid (show wrap64 ((j : Int) + 1) = (j : Int) + 1 from IntWalk.wrap64_in _ (by have := HP.out.1; omega))
    have hj' : j < l.length := by rw [HN.out]; exact hlt
    obtain ⟨b, off, rfl, hbl, hc⟩ := HL.out.1 j hj'
    have hc := hc.below hS.out.2.2.2.2.2 hbl
    have hxo := HL.out.2.1 (l.getD j st0) (by rw [List.getD_eq_getElem?_getD, List.getElem?_eq_getElem hj']; exact List.getElem_mem hj')
    have hwt := HP.out.2.1 j hlt
    obtain ⟨x, hx⟩ : ∃ x, l.getD j st0 = x := ⟨_, rfl⟩
    rw [hx] at hc hxo hwt
    obtain ⟨k0, k1, k2, k3, ⟨m0', m1, m2, m3, m4, m5, m6⟩, k5⟩ := x
    obtain ⟨q0, q1, q2, q3, q4, q5, q6, q7, q8, q9, q10, q11⟩ := hc
    obtain ⟨W, hW⟩ : ∃ W, wr.alloc (.cells #[.int .i64 k0, .int .i64 k1, .bool k2, .int .i64 k3, .int .i64 m0', .int .i64 m1, .int .i64 m2, .int .i64 m3, .int .i64 m4, .int .i64 m5, .bool m6, .int .i64 k5] 44) = W := ⟨_, rfl⟩
    have hbk : Blk W wr.heap.size 44 #[.int .i64 k0, .int .i64 k1, .bool k2, .int .i64 k3, .int .i64 m0', .int .i64 m1, .int .i64 m2, .int .i64 m3, .int .i64 m4, .int .i64 m5, .bool m6, .int .i64 k5] := by rw [← hW]; exact Blk.new _ _ _
    have hbe : Below wr.heap.size wr W := by rw [← hW]; exact bel_alloc _ _
    have hT : TreeW W g gp id m f fw ch := hS.out.1.below hbe
    have HX := Lib.hid hxo
    have HW := Lib.hid (And.intro hT (And.intro (hS.out.2.2.2.2.2.trans (hbe.mono hS.out.2.2.2.2.2.size)) (And.intro hbk hwt)))
    -- the end of a step, for whatever became of the part
    have hfin : ∀ (wz : World) (f' : Nat → Pt) (fw' : Nat → Bool) (ch' T' : Int), TreeW wz g gp id m f' fw' ch' → POk T' m f' → SaysOk m f' → (ch' = -1 ∨ 0 ≤ ch' ∧ ch' ≤ T') → (0 ≤ T' ∧ T' ≤ 1000 * ((j : Int) + 1)) → Below w.heap.size w wz → Hid (∃ (j' : Nat) (f : Nat → Pt) (fw : Nat → Bool) (ch T : Int), j' = j + 1 ∧ T = T' ∧ (TreeW wz g gp id m f fw ch ∧ POk T m f ∧ SaysOk m f ∧ (ch = -1 ∨ 0 ≤ ch ∧ ch ≤ T) ∧ (0 ≤ T ∧ T ≤ 1000 * j') ∧ Below w.heap.size w wz)) := fun wz f' fw' ch' T' h1 h2 h3 h4 h5 h6 => Lib.hid ⟨j + 1, f', fw', ch', T', rfl, rfl, h1, h2, h3, h4, ⟨h5.1, by have := h5.2; omega⟩, h6⟩
    have HF := Lib.hid hfin
    have s0 : W.cell? ⟨wr.heap.size, 0, none⟩ = some (.int .i64 k0) := hbk.cell 0
    have s1 : W.cell? ⟨wr.heap.size, 1, none⟩ = some (.int .i64 k1) := hbk.cell 1
    have s2 : W.cell? ⟨wr.heap.size, 2, none⟩ = some (.bool k2) := hbk.cell 2
    have s3 : W.cell? ⟨wr.heap.size, 3, none⟩ = some (.int .i64 k3) := hbk.cell 3
    have s4 : W.cell? ⟨wr.heap.size, 4, none⟩ = some (.int .i64 m0') := hbk.cell 4
    have s5 : W.cell? ⟨wr.heap.size, 5, none⟩ = some (.int .i64 m1) := hbk.cell 5
    have s6 : W.cell? ⟨wr.heap.size, 6, none⟩ = some (.int .i64 m2) := hbk.cell 6
    have s7 : W.cell? ⟨wr.heap.size, 7, none⟩ = some (.int .i64 m3) := hbk.cell 7
    have s8 : W.cell? ⟨wr.heap.size, 8, none⟩ = some (.int .i64 m4) := hbk.cell 8
    have s9 : W.cell? ⟨wr.heap.size, 9, none⟩ = some (.int .i64 m5) := hbk.cell 9
    have s10 : W.cell? ⟨wr.heap.size, 10, none⟩ = some (.bool m6) := hbk.cell 10
    have s11 : W.cell? ⟨wr.heap.size, 11, none⟩ = some (.int .i64 k5) := hbk.cell 11
    clear hbl hx hxo hwt hj' hj hbk hbe hT hfin
    by_cases e0 : k0 = 0
    · subst e0
      go_wp2_with fail
      all_goals
        refine (tset_f HW.out.1 HM.out.2 hS.out.2.1 k1 k2 _).mono ?_
        rintro e w5 ⟨f', r, rfl, h5, t5, hcase⟩
        have hk := set_keep hcase hS.out.2.2.2.2.1.1 hS.out.2.1 hS.out.2.2.1
        have hb5 : Below w.heap.size w w5 := below_touch HW.out.2.1 t5 HGP.out
        have HE := Lib.hid (And.intro h5 (And.intro hk.1 (And.intro hk.2 (And.intro hS.out.2.2.2.1 (And.intro (show 0 ≤ T ∧ T ≤ 1000 * ((j : Int) + 1) from ⟨hS.out.2.2.2.2.1.1, by have := hS.out.2.2.2.2.1.2; omega⟩) hb5)))))
        clear h5 t5 hcase hk hb5 s0 s1 s2 s3 s4 s5 s6 s7 s8 s9 s10 s11 q0 q1 q2 q3 q4 q5 q6 q7 q8 q9 q10 q11

        have hlow := best_low id m f'
        have HBE := Lib.hid (fun w fw ch (h : TreeW w g gp id m f' fw ch) => tbest_any h)
        have HRT := Lib.hid (fun w fw ch (h : TreeW w g gp id m f' fw ch) => root_any h)
        obtain ⟨bv, hbv⟩ : ∃ bv, (bestP id m f').1 = bv := ⟨_, rfl⟩
        obtain ⟨rt, hrt⟩ : ∃ rt, (bestP id m f').2 = rt := ⟨_, rfl⟩
        rw [hbv] at HBE hlow
        rw [hrt] at HRT hlow
        clear hbv hrt
        have dl : decide (id < bv.root) = false := decide_eq_false (by have := hlow.1; omega)
        by_cases hr : bv.root = id
        · have dr : decide (rt < 0) = true := decide_eq_true (hlow.2.2 hr)
          obtain ⟨br, bc, bb, bp⟩ := bv
          have hr : br = id := hr
          subst hr
          simp only [Vec.v, Vec.arr] at HBE
          clear hlow
          have hfd := vec_field0 br bc bb bp
          go_wp2_with fail
          refine (HBE.out _ _ _ HE.out.1).mono ?_
          rintro e w6 ⟨rfl, b6⟩
          have H6 := Lib.hid (show TreeW w6 g gp _ m _ _ _ from HE.out.1.below b6)
          have B6 := Lib.hid b6
          clear b6
          go_wp2_with (go_at_call 19; refine (HRT.out _ _ _ H6.out).mono ?_; rintro e w' ⟨rfl, rfl⟩)
          refine (HBE.out _ _ _ H6.out).mono ?_
          rintro e w7 ⟨rfl, b7⟩
          have h7 : TreeW w7 g gp _ m _ _ _ := H6.out.below b7
          have hb7 : Below w.heap.size w w7 := (HE.out.2.2.2.2.2.trans (B6.out.mono HE.out.2.2.2.2.2.size)).trans (b7.mono (HE.out.2.2.2.2.2.trans (B6.out.mono HE.out.2.2.2.2.2.size)).size)
          have H7 := Lib.hid (And.intro h7 hb7)
          clear b7 h7 hb7
          go_wp2_with fail
          go_roundw
          case rel =>
            rw [HJ.out]
            exact ⟨j + 1, f', fw, ch, T, hlt, by rw [Int.natCast_add]; rfl, rfl, Lib.hid ⟨H7.out.1, HE.out.2.1, HE.out.2.2.1, HE.out.2.2.2.1, ⟨HE.out.2.2.2.2.1.1, by have := HE.out.2.2.2.2.1.2; omega⟩, H7.out.2⟩⟩
          case measure =>
            rw [HJ.out]
            show n - ((j : Int) + 1).toNat < n - ((j : Int)).toNat
            omega
        · have dr : decide (rt < 0) = false := decide_eq_false fun h => hr (hlow.2.1 h)
          obtain ⟨br, bc, bb, bp⟩ := bv
          have dr2 : (br == id) = false := by simpa using hr
          clear hr
          simp only [Vec.v, Vec.arr] at HBE
          clear hlow
          have hfd := vec_field0 br bc bb bp
          go_wp2_with fail
          refine (HBE.out _ _ _ HE.out.1).mono ?_
          rintro e w6 ⟨rfl, b6⟩
          have H6 := Lib.hid (show TreeW w6 g gp _ m _ _ _ from HE.out.1.below b6)
          have B6 := Lib.hid b6
          clear b6
          go_wp2_with (go_at_call 19; refine (HRT.out _ _ _ H6.out).mono ?_; rintro e w' ⟨rfl, rfl⟩)
          refine (HBE.out _ _ _ H6.out).mono ?_
          rintro e w7 ⟨rfl, b7⟩
          have h7 : TreeW w7 g gp _ m _ _ _ := H6.out.below b7
          have hb7 : Below w.heap.size w w7 := (HE.out.2.2.2.2.2.trans (B6.out.mono HE.out.2.2.2.2.2.size)).trans (b7.mono (HE.out.2.2.2.2.2.trans (B6.out.mono HE.out.2.2.2.2.2.size)).size)
          have H7 := Lib.hid (And.intro h7 hb7)
          clear b7 h7 hb7
          go_wp2_with fail
          go_roundw
          case rel =>
            rw [HJ.out]
            exact ⟨j + 1, f', fw, ch, T, hlt, by rw [Int.natCast_add]; rfl, rfl, Lib.hid ⟨H7.out.1, HE.out.2.1, HE.out.2.2.1, HE.out.2.2.2.1, ⟨HE.out.2.2.2.2.1.1, by have := HE.out.2.2.2.2.1.2; omega⟩, H7.out.2⟩⟩
          case measure =>
            rw [HJ.out]
            show n - ((j : Int) + 1).toNat < n - ((j : Int)).toNat
            omega

    by_cases e1 : k0 = 1
    · subst e1
      by_cases hmc : 1048576 < m1
      · skip
        have s1' : (W.alloc (.cells #[.int .i64 m0', .int .i64 1048576, .int .i64 m2, .int .i64 m3, .int .i64 m4, .int .i64 m5, .bool m6] 34)).cell? ⟨wr.heap.size, 1, none⟩ = some (.int .i64 k1) := (Blk.alloc HW.out.2.2.1 _).cell 1
        go_wp2_with fail
        have hb1 := HX.out
        have hbo : Bp.ok ⟨m0', 1048576, m2, m3, m4, m5, m6⟩ := ⟨hb1.root, show In64 1048576 from ⟨by decide, by decide⟩, hb1.bridge, hb1.bport, hb1.age, hb1.role⟩
        refine (thear_f (TreeAt.alloc HW.out.1 _) HM.out.2 hS.out.2.1 hS.out.2.2.2.2.1.1 k1 ⟨m0', 1048576, m2, m3, m4, m5, m6⟩ ⟨hbo.root, hbo.cost, hbo.bridge, hbo.port, hbo.age, hbo.role⟩ hbo).mono ?_
        rintro e w5 ⟨f', r, rfl, h5, t5, hcase⟩
        have hk := hear_keep hcase hbo (by show 1048576 ≤ (1048576 : Int); decide) hS.out.2.2.2.2.1.1 hS.out.2.1 hS.out.2.2.1
        have hb5 : Below w.heap.size w w5 := below_touch (HW.out.2.1.alloc HW.out.2.1.size _) t5 HGP.out
        have HE := Lib.hid (And.intro h5 (And.intro hk.1 (And.intro hk.2 (And.intro hS.out.2.2.2.1 (And.intro (show 0 ≤ T ∧ T ≤ 1000 * ((j : Int) + 1) from ⟨hS.out.2.2.2.2.1.1, by have := hS.out.2.2.2.2.1.2; omega⟩) hb5)))))
        clear h5 t5 hcase hk hb5 hb1 hbo s0 s1 s2 s3 s4 s5 s6 s7 s8 s9 s10 s11 q0 q1 q2 q3 q4 q5 q6 q7 q8 q9 q10 q11

        have hlow := best_low id m f'
        have HBE := Lib.hid (fun w fw ch (h : TreeW w g gp id m f' fw ch) => tbest_any h)
        have HRT := Lib.hid (fun w fw ch (h : TreeW w g gp id m f' fw ch) => root_any h)
        obtain ⟨bv, hbv⟩ : ∃ bv, (bestP id m f').1 = bv := ⟨_, rfl⟩
        obtain ⟨rt, hrt⟩ : ∃ rt, (bestP id m f').2 = rt := ⟨_, rfl⟩
        rw [hbv] at HBE hlow
        rw [hrt] at HRT hlow
        clear hbv hrt
        have dl : decide (id < bv.root) = false := decide_eq_false (by have := hlow.1; omega)
        by_cases hr : bv.root = id
        · have dr : decide (rt < 0) = true := decide_eq_true (hlow.2.2 hr)
          obtain ⟨br, bc, bb, bp⟩ := bv
          have hr : br = id := hr
          subst hr
          simp only [Vec.v, Vec.arr] at HBE
          clear hlow
          have hfd := vec_field0 br bc bb bp
          go_wp2_with fail
          refine (HBE.out _ _ _ HE.out.1).mono ?_
          rintro e w6 ⟨rfl, b6⟩
          have H6 := Lib.hid (show TreeW w6 g gp _ m _ _ _ from HE.out.1.below b6)
          have B6 := Lib.hid b6
          clear b6
          go_wp2_with (go_at_call 19; refine (HRT.out _ _ _ H6.out).mono ?_; rintro e w' ⟨rfl, rfl⟩)
          refine (HBE.out _ _ _ H6.out).mono ?_
          rintro e w7 ⟨rfl, b7⟩
          have h7 : TreeW w7 g gp _ m _ _ _ := H6.out.below b7
          have hb7 : Below w.heap.size w w7 := (HE.out.2.2.2.2.2.trans (B6.out.mono HE.out.2.2.2.2.2.size)).trans (b7.mono (HE.out.2.2.2.2.2.trans (B6.out.mono HE.out.2.2.2.2.2.size)).size)
          have H7 := Lib.hid (And.intro h7 hb7)
          clear b7 h7 hb7
          go_wp2_with fail
          go_roundw
          case rel =>
            rw [HJ.out]
            exact ⟨j + 1, f', fw, ch, T, hlt, by rw [Int.natCast_add]; rfl, rfl, Lib.hid ⟨H7.out.1, HE.out.2.1, HE.out.2.2.1, HE.out.2.2.2.1, ⟨HE.out.2.2.2.2.1.1, by have := HE.out.2.2.2.2.1.2; omega⟩, H7.out.2⟩⟩
          case measure =>
            rw [HJ.out]
            show n - ((j : Int) + 1).toNat < n - ((j : Int)).toNat
            omega
        · have dr : decide (rt < 0) = false := decide_eq_false fun h => hr (hlow.2.1 h)
          obtain ⟨br, bc, bb, bp⟩ := bv
          have dr2 : (br == id) = false := by simpa using hr
          clear hr
          simp only [Vec.v, Vec.arr] at HBE
          clear hlow
          have hfd := vec_field0 br bc bb bp
          go_wp2_with fail
          refine (HBE.out _ _ _ HE.out.1).mono ?_
          rintro e w6 ⟨rfl, b6⟩
          have H6 := Lib.hid (show TreeW w6 g gp _ m _ _ _ from HE.out.1.below b6)
          have B6 := Lib.hid b6
          clear b6
          go_wp2_with (go_at_call 19; refine (HRT.out _ _ _ H6.out).mono ?_; rintro e w' ⟨rfl, rfl⟩)
          refine (HBE.out _ _ _ H6.out).mono ?_
          rintro e w7 ⟨rfl, b7⟩
          have h7 : TreeW w7 g gp _ m _ _ _ := H6.out.below b7
          have hb7 : Below w.heap.size w w7 := (HE.out.2.2.2.2.2.trans (B6.out.mono HE.out.2.2.2.2.2.size)).trans (b7.mono (HE.out.2.2.2.2.2.trans (B6.out.mono HE.out.2.2.2.2.2.size)).size)
          have H7 := Lib.hid (And.intro h7 hb7)
          clear b7 h7 hb7
          go_wp2_with fail
          go_roundw
          case rel =>
            rw [HJ.out]
            exact ⟨j + 1, f', fw, ch, T, hlt, by rw [Int.natCast_add]; rfl, rfl, Lib.hid ⟨H7.out.1, HE.out.2.1, HE.out.2.2.1, HE.out.2.2.2.1, ⟨HE.out.2.2.2.2.1.1, by have := HE.out.2.2.2.2.1.2; omega⟩, H7.out.2⟩⟩
          case measure =>
            rw [HJ.out]
            show n - ((j : Int) + 1).toNat < n - ((j : Int)).toNat
            omega
      · have HC := Lib.hid hmc
        have s1' : (W.alloc (.cells #[.int .i64 m0', .int .i64 m1, .int .i64 m2, .int .i64 m3, .int .i64 m4, .int .i64 m5, .bool m6] 34)).cell? ⟨wr.heap.size, 1, none⟩ = some (.int .i64 k1) := (Blk.alloc HW.out.2.2.1 _).cell 1
        go_wp2_with fail
        have hb1 := HX.out
        have hbo : Bp.ok ⟨m0', m1, m2, m3, m4, m5, m6⟩ := ⟨hb1.root, hb1.bcost, hb1.bridge, hb1.bport, hb1.age, hb1.role⟩
        refine (thear_f (TreeAt.alloc HW.out.1 _) HM.out.2 hS.out.2.1 hS.out.2.2.2.2.1.1 k1 ⟨m0', m1, m2, m3, m4, m5, m6⟩ ⟨hbo.root, hbo.cost, hbo.bridge, hbo.port, hbo.age, hbo.role⟩ hbo).mono ?_
        rintro e w5 ⟨f', r, rfl, h5, t5, hcase⟩
        have hk := hear_keep hcase hbo (by show m1 ≤ (1048576 : Int); have := HC.out; omega) hS.out.2.2.2.2.1.1 hS.out.2.1 hS.out.2.2.1
        have hb5 : Below w.heap.size w w5 := below_touch (HW.out.2.1.alloc HW.out.2.1.size _) t5 HGP.out
        have HE := Lib.hid (And.intro h5 (And.intro hk.1 (And.intro hk.2 (And.intro hS.out.2.2.2.1 (And.intro (show 0 ≤ T ∧ T ≤ 1000 * ((j : Int) + 1) from ⟨hS.out.2.2.2.2.1.1, by have := hS.out.2.2.2.2.1.2; omega⟩) hb5)))))
        clear h5 t5 hcase hk hb5 hb1 hbo s0 s1 s2 s3 s4 s5 s6 s7 s8 s9 s10 s11 q0 q1 q2 q3 q4 q5 q6 q7 q8 q9 q10 q11

        have hlow := best_low id m f'
        have HBE := Lib.hid (fun w fw ch (h : TreeW w g gp id m f' fw ch) => tbest_any h)
        have HRT := Lib.hid (fun w fw ch (h : TreeW w g gp id m f' fw ch) => root_any h)
        obtain ⟨bv, hbv⟩ : ∃ bv, (bestP id m f').1 = bv := ⟨_, rfl⟩
        obtain ⟨rt, hrt⟩ : ∃ rt, (bestP id m f').2 = rt := ⟨_, rfl⟩
        rw [hbv] at HBE hlow
        rw [hrt] at HRT hlow
        clear hbv hrt
        have dl : decide (id < bv.root) = false := decide_eq_false (by have := hlow.1; omega)
        by_cases hr : bv.root = id
        · have dr : decide (rt < 0) = true := decide_eq_true (hlow.2.2 hr)
          obtain ⟨br, bc, bb, bp⟩ := bv
          have hr : br = id := hr
          subst hr
          simp only [Vec.v, Vec.arr] at HBE
          clear hlow
          have hfd := vec_field0 br bc bb bp
          go_wp2_with fail
          refine (HBE.out _ _ _ HE.out.1).mono ?_
          rintro e w6 ⟨rfl, b6⟩
          have H6 := Lib.hid (show TreeW w6 g gp _ m _ _ _ from HE.out.1.below b6)
          have B6 := Lib.hid b6
          clear b6
          go_wp2_with (go_at_call 19; refine (HRT.out _ _ _ H6.out).mono ?_; rintro e w' ⟨rfl, rfl⟩)
          refine (HBE.out _ _ _ H6.out).mono ?_
          rintro e w7 ⟨rfl, b7⟩
          have h7 : TreeW w7 g gp _ m _ _ _ := H6.out.below b7
          have hb7 : Below w.heap.size w w7 := (HE.out.2.2.2.2.2.trans (B6.out.mono HE.out.2.2.2.2.2.size)).trans (b7.mono (HE.out.2.2.2.2.2.trans (B6.out.mono HE.out.2.2.2.2.2.size)).size)
          have H7 := Lib.hid (And.intro h7 hb7)
          clear b7 h7 hb7
          go_wp2_with fail
          go_roundw
          case rel =>
            rw [HJ.out]
            exact ⟨j + 1, f', fw, ch, T, hlt, by rw [Int.natCast_add]; rfl, rfl, Lib.hid ⟨H7.out.1, HE.out.2.1, HE.out.2.2.1, HE.out.2.2.2.1, ⟨HE.out.2.2.2.2.1.1, by have := HE.out.2.2.2.2.1.2; omega⟩, H7.out.2⟩⟩
          case measure =>
            rw [HJ.out]
            show n - ((j : Int) + 1).toNat < n - ((j : Int)).toNat
            omega
        · have dr : decide (rt < 0) = false := decide_eq_false fun h => hr (hlow.2.1 h)
          obtain ⟨br, bc, bb, bp⟩ := bv
          have dr2 : (br == id) = false := by simpa using hr
          clear hr
          simp only [Vec.v, Vec.arr] at HBE
          clear hlow
          have hfd := vec_field0 br bc bb bp
          go_wp2_with fail
          refine (HBE.out _ _ _ HE.out.1).mono ?_
          rintro e w6 ⟨rfl, b6⟩
          have H6 := Lib.hid (show TreeW w6 g gp _ m _ _ _ from HE.out.1.below b6)
          have B6 := Lib.hid b6
          clear b6
          go_wp2_with (go_at_call 19; refine (HRT.out _ _ _ H6.out).mono ?_; rintro e w' ⟨rfl, rfl⟩)
          refine (HBE.out _ _ _ H6.out).mono ?_
          rintro e w7 ⟨rfl, b7⟩
          have h7 : TreeW w7 g gp _ m _ _ _ := H6.out.below b7
          have hb7 : Below w.heap.size w w7 := (HE.out.2.2.2.2.2.trans (B6.out.mono HE.out.2.2.2.2.2.size)).trans (b7.mono (HE.out.2.2.2.2.2.trans (B6.out.mono HE.out.2.2.2.2.2.size)).size)
          have H7 := Lib.hid (And.intro h7 hb7)
          clear b7 h7 hb7
          go_wp2_with fail
          go_roundw
          case rel =>
            rw [HJ.out]
            exact ⟨j + 1, f', fw, ch, T, hlt, by rw [Int.natCast_add]; rfl, rfl, Lib.hid ⟨H7.out.1, HE.out.2.1, HE.out.2.2.1, HE.out.2.2.2.1, ⟨HE.out.2.2.2.2.1.1, by have := HE.out.2.2.2.2.1.2; omega⟩, H7.out.2⟩⟩
          case measure =>
            rw [HJ.out]
            show n - ((j : Int) + 1).toNat < n - ((j : Int)).toNat
            omega
    by_cases e2 : k0 = 2
    rotate_left
    · have d0 : (k0 == 0) = false := by simpa using e0
      have d1 : (k0 == 1) = false := by simpa using e1
      have d2 : (k0 == 2) = false := by simpa using e2
      have HE := Lib.hid (And.intro HW.out.1 (And.intro hS.out.2.1 (And.intro hS.out.2.2.1 (And.intro hS.out.2.2.2.1 (And.intro (show 0 ≤ T ∧ T ≤ 1000 * ((j : Int) + 1) from ⟨hS.out.2.2.2.2.1.1, by have := hS.out.2.2.2.2.1.2; omega⟩) HW.out.2.1)))))
      obtain ⟨f', hf'⟩ : ∃ f', f = f' := ⟨_, rfl⟩
      rw [hf'] at HE
      clear e0 e1 e2

      have hlow := best_low id m f'
      have HBE := Lib.hid (fun w fw ch (h : TreeW w g gp id m f' fw ch) => tbest_any h)
      have HRT := Lib.hid (fun w fw ch (h : TreeW w g gp id m f' fw ch) => root_any h)
      obtain ⟨bv, hbv⟩ : ∃ bv, (bestP id m f').1 = bv := ⟨_, rfl⟩
      obtain ⟨rt, hrt⟩ : ∃ rt, (bestP id m f').2 = rt := ⟨_, rfl⟩
      rw [hbv] at HBE hlow
      rw [hrt] at HRT hlow
      clear hbv hrt
      have dl : decide (id < bv.root) = false := decide_eq_false (by have := hlow.1; omega)
      by_cases hr : bv.root = id
      · have dr : decide (rt < 0) = true := decide_eq_true (hlow.2.2 hr)
        obtain ⟨br, bc, bb, bp⟩ := bv
        have hr : br = id := hr
        subst hr
        simp only [Vec.v, Vec.arr] at HBE
        clear hlow
        have hfd := vec_field0 br bc bb bp
        go_wp2_with fail
        refine (HBE.out _ _ _ HE.out.1).mono ?_
        rintro e w6 ⟨rfl, b6⟩
        have H6 := Lib.hid (show TreeW w6 g gp _ m _ _ _ from HE.out.1.below b6)
        have B6 := Lib.hid b6
        clear b6
        go_wp2_with (go_at_call 19; refine (HRT.out _ _ _ H6.out).mono ?_; rintro e w' ⟨rfl, rfl⟩)
        refine (HBE.out _ _ _ H6.out).mono ?_
        rintro e w7 ⟨rfl, b7⟩
        have h7 : TreeW w7 g gp _ m _ _ _ := H6.out.below b7
        have hb7 : Below w.heap.size w w7 := (HE.out.2.2.2.2.2.trans (B6.out.mono HE.out.2.2.2.2.2.size)).trans (b7.mono (HE.out.2.2.2.2.2.trans (B6.out.mono HE.out.2.2.2.2.2.size)).size)
        have H7 := Lib.hid (And.intro h7 hb7)
        clear b7 h7 hb7
        go_wp2_with fail
        go_roundw
        case rel =>
          rw [HJ.out]
          exact ⟨j + 1, f', fw, ch, T, hlt, by rw [Int.natCast_add]; rfl, rfl, Lib.hid ⟨H7.out.1, HE.out.2.1, HE.out.2.2.1, HE.out.2.2.2.1, ⟨HE.out.2.2.2.2.1.1, by have := HE.out.2.2.2.2.1.2; omega⟩, H7.out.2⟩⟩
        case measure =>
          rw [HJ.out]
          show n - ((j : Int) + 1).toNat < n - ((j : Int)).toNat
          omega
      · have dr : decide (rt < 0) = false := decide_eq_false fun h => hr (hlow.2.1 h)
        obtain ⟨br, bc, bb, bp⟩ := bv
        have dr2 : (br == id) = false := by simpa using hr
        clear hr
        simp only [Vec.v, Vec.arr] at HBE
        clear hlow
        have hfd := vec_field0 br bc bb bp
        go_wp2_with fail
        refine (HBE.out _ _ _ HE.out.1).mono ?_
        rintro e w6 ⟨rfl, b6⟩
        have H6 := Lib.hid (show TreeW w6 g gp _ m _ _ _ from HE.out.1.below b6)
        have B6 := Lib.hid b6
        clear b6
        go_wp2_with (go_at_call 19; refine (HRT.out _ _ _ H6.out).mono ?_; rintro e w' ⟨rfl, rfl⟩)
        refine (HBE.out _ _ _ H6.out).mono ?_
        rintro e w7 ⟨rfl, b7⟩
        have h7 : TreeW w7 g gp _ m _ _ _ := H6.out.below b7
        have hb7 : Below w.heap.size w w7 := (HE.out.2.2.2.2.2.trans (B6.out.mono HE.out.2.2.2.2.2.size)).trans (b7.mono (HE.out.2.2.2.2.2.trans (B6.out.mono HE.out.2.2.2.2.2.size)).size)
        have H7 := Lib.hid (And.intro h7 hb7)
        clear b7 h7 hb7
        go_wp2_with fail
        go_roundw
        case rel =>
          rw [HJ.out]
          exact ⟨j + 1, f', fw, ch, T, hlt, by rw [Int.natCast_add]; rfl, rfl, Lib.hid ⟨H7.out.1, HE.out.2.1, HE.out.2.2.1, HE.out.2.2.2.1, ⟨HE.out.2.2.2.2.1.1, by have := HE.out.2.2.2.2.1.2; omega⟩, H7.out.2⟩⟩
        case measure =>
          rw [HJ.out]
          show n - ((j : Int) + 1).toNat < n - ((j : Int)).toNat
          omega
    subst e2
    have hT01 := hS.out.2.2.2.2.1
    have hwt : 0 ≤ k5 ∧ k5 ≤ 1000 := HW.out.2.2.2
    have hT2' : wrap64 (T + k5) = T + k5 := IntWalk.wrap64_in _ (by have := HP.out.1; omega)
    obtain ⟨T2, hT2⟩ : ∃ T2, wrap64 (T + k5) = T2 := ⟨_, rfl⟩
    have hTT : T ≤ T2 ∧ T2 ≤ 1000 * ((j : Int) + 1) ∧ T2 ≤ 1099511627776 := by rw [← hT2, hT2']; have := HP.out.1; omega
    have HTK := Lib.hid (tick_any HW.out.1 HM.out.2 hS.out.2.1 hT01.1 hTT.1 hTT.2.2 hS.out.2.2.2.1)
    have hF1 := hS.out.2.1.tickP id hT01.1 hTT.1
    have hF2 := hS.out.2.2.1.tickP id T2
    have hF3 := chN_range (f' := tickP id m T2 f) (fw := fw) (m := m) hS.out.2.2.2.1 hT01.1 hTT.1
    have hmem := fun k => @says_mem id m (tickP id m T2 f) (chN (tickP id m T2 f) fw T2 m ch) T2 k
    have hsl := says_len id m (tickP id m T2 f) (chN (tickP id m T2 f) fw T2 m ch) T2
    have hgd := fun i (hi : i < m) => said_takes HID.out hF2 hF1 HM.out.2 (chN (tickP id m T2 f) fw T2 m ch) T2 hi
    obtain ⟨F, hFe⟩ : ∃ F, tickP id m T2 f = F := ⟨_, rfl⟩
    rw [hFe] at HTK hF1 hF2 hF3 hmem hsl hgd
    obtain ⟨C, hCe⟩ : ∃ C, chN F fw T2 m ch = C := ⟨_, rfl⟩
    rw [hCe] at HTK hF3 hmem hsl hgd
    obtain ⟨S, hSe⟩ : ∃ S, saysN id m F C T2 = S := ⟨_, rfl⟩
    rw [hSe] at HTK hmem hsl
    obtain ⟨ns, hns⟩ : ∃ ns, S.length = ns := ⟨_, rfl⟩
    rw [hns] at HTK
    have HF2 := Lib.hid (And.intro hF1 (And.intro hF2 (And.intro hF3 (And.intro hmem (And.intro (hns ▸ hsl) (And.intro hgd (And.intro hns (And.intro hT01.1 hTT))))))))
    have d0 : ((2 : Int) == 0) = false := rfl
    have ns0 : (0 : Int) ≤ ns := by omega
    clear hT01 hwt hT2' hTT hF1 hF2 hF3 hmem hsl hgd hFe hCe hSe hns e0 e1
    go_wp2_with fail
    refine HTK.out.mono ?_
    rintro e w5 ⟨A5, c5, rfl, ho5, hn5, h5, t5⟩
    have hb5 : Below w.heap.size w w5 := below_touch HW.out.2.1 t5 HGP.out
    have H5 := Lib.hid (And.intro h5 (And.intro ho5 (And.intro hb5 hn5)))
    clear ho5 hn5 h5 t5 hb5
    go_wp2_with fail
    go_loopw [81] (fun iv wq => ∃ q : Nat, q ≤ ns ∧ iv = .int .i64 q ∧ Hid (TreeW wq g gp id m F (fwN F T2) C ∧ Below w5.heap.size w5 wq)) (fun iv _ => ns - (intOf iv).toNat)
    case atStart => exact ⟨0, Nat.zero_le _, rfl, Lib.hid ⟨H5.out.1, Below.refl _ _⟩⟩
    case round =>
      obtain ⟨q, hq, rfl, hQ⟩ := hrel
      by_cases hltq : q < ns
      · have i1 : (q : Int) < ns := by omega
        have i0 : (0 : Int) ≤ q := by omega
        have HJQ := Lib.hid (show wrap64 ((q : Int) + 1) = (q : Int) + 1 from IntWalk.wrap64_in _ (by have := HF2.out.2.2.2.2.1; have := HM.out; omega))
        have hqS : q < S.length := by have := HF2.out.2.2.2.2.2.2.1; omega
        obtain ⟨i, hi, hro, hse⟩ := HF2.out.2.2.2.1 q hqS
        obtain ⟨b5, rfl, hb51, hb52, hc5⟩ := H5.out.2.1.at_ hqS
        have hc5 := hc5.below hQ.out.2 hb52
        have hgo := HF2.out.2.2.2.2.2.1 i hi
        have hlow := best_low id m F
        have hage := age_low id m F
        have HRO := Lib.hid (fun w (h : TreeW w g gp id m F (fwN F T2) C) => role_in h i hi)
        rw [hro] at HRO
        rw [hse] at hc5
        unfold saidOf at hc5 hgo
        have HBE := Lib.hid (fun w (h : TreeW w g gp id m F (fwN F T2) C) => tbest_any h)
        obtain ⟨bv, hbv⟩ : ∃ bv, (bestP id m F).1 = bv := ⟨_, rfl⟩
        obtain ⟨ag, hag⟩ : ∃ ag, ageP id m F = ag := ⟨_, rfl⟩
        obtain ⟨te, hte⟩ : ∃ te, tells C T2 = te := ⟨_, rfl⟩
        rw [hbv] at HBE hlow hage
        rw [hag] at hage
        rw [hbv, hag, hte] at hc5 hgo
        obtain ⟨br, bc, bb, bp⟩ := bv
        simp only [Vec.v, Vec.arr] at HBE
        obtain ⟨y0, y1, y2, y3, y4, y5, y6, y7⟩ := hc5
        have hgv := (good_iff ⟨br, bc, id, i, ag, 2, te⟩).1 ⟨hgo, rfl⟩
        have hbi : Bp.int ⟨br, bc, id, i, ag, 2, te⟩ := by
          obtain ⟨⟨g1, g2, g3, g4, g5, g6, g7, g8⟩, _⟩ := hgv
          have r1 := name_in g1
          have r2 := name_in g2
          have g7 : 0 ≤ ag := g7
          have g8 : ag ≤ 10 := g8
          have g3 : 0 ≤ bc := g3
          have g4 : bc < 2147483648 := g4
          have g6 : (i : Int) ≤ 5 := g6
          have r1 : 0 < br ∧ br < 4503599627370496 := r1
          have r2 : 0 < id ∧ id < 4503599627370496 := r2
          exact ⟨⟨by show (-9223372036854775808 : Int) ≤ br; omega, by show br ≤ (9223372036854775807 : Int); omega⟩, ⟨by show (-9223372036854775808 : Int) ≤ bc; omega, by show bc ≤ (9223372036854775807 : Int); omega⟩, ⟨by show (-9223372036854775808 : Int) ≤ id; omega, by show id ≤ (9223372036854775807 : Int); omega⟩, ⟨by show (-9223372036854775808 : Int) ≤ (i : Int); omega, by show (i : Int) ≤ (9223372036854775807 : Int); omega⟩, ⟨by show (-9223372036854775808 : Int) ≤ ag; omega, by show ag ≤ (9223372036854775807 : Int); omega⟩, show InI 2 from ⟨by decide, by decide⟩⟩
        have HGD := Lib.hid (fun w => rbgood_any ⟨br, bc, id, i, ag, 2, te⟩ hbi w)
        rw [hgo] at HGD
        simp only [Bp.v, Bp.cells] at HGD
        have hfd := vec_field0 br bc bb bp
        have hfd1 := vec_field1 br bc bb bp
        clear hq hqS hse hb51 hb52 hgo hbv hag hte hro hbi
        obtain ⟨tt, htt⟩ : ∃ tt, (br == id) = tt := ⟨_, rfl⟩
        have hta : (ag == 0) = tt := by
          rw [← htt]
          by_cases hr : br = id
          · have := hage.2.2.2 hr
            rw [beq_iff_eq.2 this, beq_iff_eq.2 hr]
          · have : ¬ ag = 0 := fun h => hr (hage.2.2.1 h)
            rw [beq_eq_false_iff_ne.2 this, beq_eq_false_iff_ne.2 hr]
        clear hage hlow hgv
        obtain ⟨z, hz⟩ : ∃ z, wr.heap.size = z := ⟨_, rfl⟩
        have kx0 := (Blk.new wr 52 #[.int .i64 i, .int .i64 br, .int .i64 bc, .int .i64 id, .int .i64 i, .int .i64 ag, .int .i64 2, .bool te]).alloc (.cells #[.int .i64 br, .int .i64 bc, .int .i64 id, .int .i64 i] 32)
        have kv0 := vec_new wr (.cells #[.int .i64 i, .int .i64 br, .int .i64 bc, .int .i64 id, .int .i64 i, .int .i64 ag, .int .i64 2, .bool te] 52) #[.int .i64 br, .int .i64 bc, .int .i64 id, .int .i64 i]
        have hT0 : TreeW ((wr.alloc (.cells #[.int .i64 i, .int .i64 br, .int .i64 bc, .int .i64 id, .int .i64 i, .int .i64 ag, .int .i64 2, .bool te] 52)).alloc (.cells #[.int .i64 br, .int .i64 bc, .int .i64 id, .int .i64 i] 32)) g gp id m F (fwN F T2) C := hQ.out.1.below (bel_alloc2 wr _ _)
        have hB0 := bel_alloc2 wr (.cells #[.int .i64 i, .int .i64 br, .int .i64 bc, .int .i64 id, .int .i64 i, .int .i64 ag, .int .i64 2, .bool te] 52) (.cells #[.int .i64 br, .int .i64 bc, .int .i64 id, .int .i64 i] 32)
        obtain ⟨W1, hW1⟩ : ∃ W1, ((wr.alloc (.cells #[.int .i64 i, .int .i64 br, .int .i64 bc, .int .i64 id, .int .i64 i, .int .i64 ag, .int .i64 2, .bool te] 52)).alloc (.cells #[.int .i64 br, .int .i64 bc, .int .i64 id, .int .i64 i] 32)) = W1 := ⟨_, rfl⟩
        rw [hW1] at kx0 kv0 hT0 hB0
        rw [hz] at kx0 kv0
        have HZ := Lib.hid (And.intro kx0 (And.intro kv0 (And.intro hT0 (hQ.out.2.trans (hB0.mono hQ.out.2.size)))))
        clear kx0 kv0 hT0 hB0
        go_wp2_with fail
        have x0 := HZ.out.1
        have v0 := HZ.out.2.1
        clear y0 y1 y2 y3 y4 y5 y6 y7 hW1
        go_region_held3 (fun w' => w'.cell? ⟨z, 0, none⟩ = some (.int .i64 i) ∧ w'.cell? ⟨z, 1, none⟩ = some (.int .i64 br) ∧ w'.cell? ⟨z, 2, none⟩ = some (.int .i64 bc) ∧ w'.cell? ⟨z, 3, none⟩ = some (.int .i64 id) ∧ w'.cell? ⟨z, 4, none⟩ = some (.int .i64 i) ∧ w'.cell? ⟨z, 5, none⟩ = some (.int .i64 ag) ∧ w'.cell? ⟨z, 6, none⟩ = some (.int .i64 2) ∧ w'.cell? ⟨z, 7, none⟩ = some (.bool te) ∧ w'.cell? ⟨z + 1, 0, none⟩ = some (.int .i64 br) ∧ w'.cell? ⟨z + 1, 1, none⟩ = some (.int .i64 bc) ∧ w'.cell? ⟨z + 1, 2, none⟩ = some (.int .i64 id) ∧ w'.cell? ⟨z + 1, 3, none⟩ = some (.int .i64 i))
          (first
            | exact ⟨x0.cell 0, x0.cell 1, x0.cell 2, x0.cell 3, x0.cell 4, x0.cell 5, x0.cell 6, x0.cell 7, v0.cell 0, v0.cell 1, v0.cell 2, v0.cell 3⟩
            | exact ⟨x8.cell 0, x8.cell 1, x8.cell 2, x8.cell 3, x8.cell 4, x8.cell 5, x8.cell 6, x8.cell 7, v8.cell 0, v8.cell 1, v8.cell 2, v8.cell 3⟩
            | exact ⟨x9.cell 0, x9.cell 1, x9.cell 2, x9.cell 3, x9.cell 4, x9.cell 5, x9.cell 6, x9.cell 7, v9.cell 0, v9.cell 1, v9.cell 2, v9.cell 3⟩
            | exact ⟨x10.cell 0, x10.cell 1, x10.cell 2, x10.cell 3, x10.cell 4, x10.cell 5, x10.cell 6, x10.cell 7, v10.cell 0, v10.cell 1, v10.cell 2, v10.cell 3⟩)
          (first
            | (go_at_call 26; (with_reducible (refine (HGD.out _).mono ?_)); rintro e w8 ⟨rfl, b8⟩; have x8 := x0.below (Below.drewn b8) x0.lt; have v8 := v0.below (Below.drewn b8) v0.lt; have t8 : TreeW w8 g gp id m F (fwN F T2) C := TreeAt.below HZ.out.2.2.1 (Below.drewn b8))
            | (go_at_call 20; (with_reducible (refine (HBE.out _ t8).mono ?_)); rintro e w9 ⟨rfl, b9⟩; have x9 := x8.below b9 x8.lt; have v9 := v8.below b9 v8.lt; have t9 : TreeW w9 g gp id m F (fwN F T2) C := TreeAt.below t8 b9)
            | (go_at_call 20; (with_reducible (refine (HBE.out _ t9).mono ?_)); rintro e w10 ⟨rfl, b10⟩; have x10 := x9.below b10 x9.lt; have v10 := v9.below b10 v9.lt; have t10 : TreeW w10 g gp id m F (fwN F T2) C := TreeAt.below t9 b10)
            | (go_at_call 15; (with_reducible (refine (HRO.out _ t10).mono ?_)); rintro e w11 ⟨rfl, rfl⟩))
        all_goals
          have HN2 := Lib.hid (And.intro t10 (HZ.out.2.2.2.trans (((Below.drewn b8).trans (b9.mono (Below.drewn b8).size)).trans (b10.mono ((Below.drewn b8).trans (b9.mono (Below.drewn b8).size)).size) |>.mono HZ.out.2.2.2.size)))
          clear x8 v8 t8 x9 v9 t9 x10 v10 t10 b8 b9 b10 x0 v0
          go_wp2_with fail
          go_roundw
          case rel =>
            rw [HJQ.out]
            exact ⟨q + 1, hltq, by rw [Int.natCast_add]; rfl, HN2⟩
          case measure =>
            rw [HJQ.out]
            show ns - ((q : Int) + 1).toNat < ns - ((q : Int)).toNat
            omega
      · have HE := Lib.hid (And.intro hQ.out.1 (And.intro HF2.out.1 (And.intro HF2.out.2.1 (And.intro HF2.out.2.2.1 (And.intro (show 0 ≤ T2 ∧ T2 ≤ 1000 * ((j : Int) + 1) from ⟨Int.le_trans HF2.out.2.2.2.2.2.2.2.1 HF2.out.2.2.2.2.2.2.2.2.1, HF2.out.2.2.2.2.2.2.2.2.2.1⟩) (H5.out.2.2.1.trans (hQ.out.2.mono H5.out.2.2.1.size)))))))
        have hq' : q = ns := by omega
        subst hq'
        clear hq

        have hlow := best_low id m F
        have HBE := Lib.hid (fun w fw ch (h : TreeW w g gp id m F fw ch) => tbest_any h)
        have HRT := Lib.hid (fun w fw ch (h : TreeW w g gp id m F fw ch) => root_any h)
        obtain ⟨bv, hbv⟩ : ∃ bv, (bestP id m F).1 = bv := ⟨_, rfl⟩
        obtain ⟨rt, hrt⟩ : ∃ rt, (bestP id m F).2 = rt := ⟨_, rfl⟩
        rw [hbv] at HBE hlow
        rw [hrt] at HRT hlow
        clear hbv hrt
        have dl : decide (id < bv.root) = false := decide_eq_false (by have := hlow.1; omega)
        by_cases hr : bv.root = id
        · have dr : decide (rt < 0) = true := decide_eq_true (hlow.2.2 hr)
          obtain ⟨br, bc, bb, bp⟩ := bv
          have hr : br = id := hr
          subst hr
          simp only [Vec.v, Vec.arr] at HBE
          clear hlow
          have hfd := vec_field0 br bc bb bp
          go_wp2_with fail
          refine (HBE.out _ _ _ HE.out.1).mono ?_
          rintro e w6 ⟨rfl, b6⟩
          have H6 := Lib.hid (show TreeW w6 g gp _ m _ _ _ from HE.out.1.below b6)
          have B6 := Lib.hid b6
          clear b6
          go_wp2_with (go_at_call 19; refine (HRT.out _ _ _ H6.out).mono ?_; rintro e w' ⟨rfl, rfl⟩)
          refine (HBE.out _ _ _ H6.out).mono ?_
          rintro e w7 ⟨rfl, b7⟩
          have h7 : TreeW w7 g gp _ m _ _ _ := H6.out.below b7
          have hb7 : Below w.heap.size w w7 := (HE.out.2.2.2.2.2.trans (B6.out.mono HE.out.2.2.2.2.2.size)).trans (b7.mono (HE.out.2.2.2.2.2.trans (B6.out.mono HE.out.2.2.2.2.2.size)).size)
          have H7 := Lib.hid (And.intro h7 hb7)
          clear b7 h7 hb7
          go_wp2_with fail
          go_roundw
          case rel =>
            rw [HJ.out]
            exact ⟨j + 1, F, fwN F T2, C, T2, hlt, by rw [Int.natCast_add]; rfl, rfl, Lib.hid ⟨H7.out.1, HE.out.2.1, HE.out.2.2.1, HE.out.2.2.2.1, ⟨HE.out.2.2.2.2.1.1, by have := HE.out.2.2.2.2.1.2; omega⟩, H7.out.2⟩⟩
          case measure =>
            rw [HJ.out]
            show n - ((j : Int) + 1).toNat < n - ((j : Int)).toNat
            omega
        · have dr : decide (rt < 0) = false := decide_eq_false fun h => hr (hlow.2.1 h)
          obtain ⟨br, bc, bb, bp⟩ := bv
          have dr2 : (br == id) = false := by simpa using hr
          clear hr
          simp only [Vec.v, Vec.arr] at HBE
          clear hlow
          have hfd := vec_field0 br bc bb bp
          go_wp2_with fail
          refine (HBE.out _ _ _ HE.out.1).mono ?_
          rintro e w6 ⟨rfl, b6⟩
          have H6 := Lib.hid (show TreeW w6 g gp _ m _ _ _ from HE.out.1.below b6)
          have B6 := Lib.hid b6
          clear b6
          go_wp2_with (go_at_call 19; refine (HRT.out _ _ _ H6.out).mono ?_; rintro e w' ⟨rfl, rfl⟩)
          refine (HBE.out _ _ _ H6.out).mono ?_
          rintro e w7 ⟨rfl, b7⟩
          have h7 : TreeW w7 g gp _ m _ _ _ := H6.out.below b7
          have hb7 : Below w.heap.size w w7 := (HE.out.2.2.2.2.2.trans (B6.out.mono HE.out.2.2.2.2.2.size)).trans (b7.mono (HE.out.2.2.2.2.2.trans (B6.out.mono HE.out.2.2.2.2.2.size)).size)
          have H7 := Lib.hid (And.intro h7 hb7)
          clear b7 h7 hb7
          go_wp2_with fail
          go_roundw
          case rel =>
            rw [HJ.out]
            exact ⟨j + 1, F, fwN F T2, C, T2, hlt, by rw [Int.natCast_add]; rfl, rfl, Lib.hid ⟨H7.out.1, HE.out.2.1, HE.out.2.2.1, HE.out.2.2.2.1, ⟨HE.out.2.2.2.2.1.1, by have := HE.out.2.2.2.2.1.2; omega⟩, H7.out.2⟩⟩
          case measure =>
            rw [HJ.out]
            show n - ((j : Int) + 1).toNat < n - ((j : Int)).toNat
            omega

set_option maxRecDepth 100000 in
theorem liftedTreeSays (os : Os) (started : os.Started) (H : Type) (enc : TypeId × Value → H) :
    ReturnsInHanded {} Try.checked os 4 .any (Rows.treeSaysSpec.pre6 enc Try.prog Try.f4 Rows.treeSaysRow.domain false) (Rows.treeSaysSpec.post enc Try.prog Try.f4 false true false false) := by
  refine returnsInHanded_of_change (C := Try.checked) own started (by kernel_rfl) Try.func4
    (ChangeSpec.witness6 (enc := enc) (C := Try.checked) false ⟨#[], #[.int .i64 0, .int .i64 0, .slice none 0 0], []⟩ 8 (by kernel_rfl) (by kernel_rfl) (by kernel_rfl) (by kernel_rfl)) ?_
  intro W base args ds gs before hval0 hW hcnd _
  have hval : ∀ (j : Nat) t v, Try.f4.params[j]? = some t → args[j]? = some v → Value.okWide Try.prog W .any base t v := hval0
  have hW' := hW
  obtain ⟨p, q, hA0, hV, rfl, hfz, hnd⟩ := hW
  have hA : DataW.TrodAll enc Try.prog W 0 (fun _ => true) true Try.f4.params.toList args.toList ds p := hA0
  rw [Try.params4] at hA hval
  obtain ⟨v0, vs0, d0, ds0, p0, q0, hargs, rfl, rfl, h0, r0⟩ := trodAll_cons hA
  obtain ⟨v1, vs1, d1, ds1, p1, q1, rfl, rfl, rfl, h1, r1⟩ := trodAll_cons r0
  obtain ⟨v2, vs2, d2, ds2, p2, q2, rfl, rfl, rfl, h2, r2⟩ := trodAll_cons r1
  obtain ⟨rfl, rfl, rfl⟩ := trodAll_nil r2
  obtain rfl : args = #[v0, v1, v2] := by cases args; simp_all
  obtain ⟨rfl, rfl⟩ := trodVars_none hV
  obtain ⟨a0, rfl, rfl, rfl, w0⟩ := open_int Try.underlying3 (hval 0 3 v0 rfl rfl) h0
  obtain ⟨a1, rfl, rfl, rfl, w1⟩ := open_int Try.underlying3 (hval 1 3 v1 rfl rfl) h1
  obtain ⟨a2', len2', cap2', rfl⟩ := okWide_slice Try.underlying22 (hval 2 22 v2 rfl rfl)
  have k2 := h2
  have lt2 : ∀ x ∈ p2, x.block < W.heap.size := by obtain ⟨m, hm⟩ := k2; exact DataW.trod_lt m _ _ _ hm
  obtain ⟨a2, cap2, l2, w2, e1, e2, e3⟩ : ∃ a cap, ∃ l : List St, (StAt W W.heap.size a l ∧ (∀ x ∈ l, x.ok) ∧ l.length ≤ maxLen) ∧ a2' = a ∧ len2' = l.length ∧ cap2' = cap := by
    obtain ⟨fuel, hf⟩ := h2
    obtain ⟨a, cap, l, hcs, q⟩ := open_steps hf
    simp [Value.cells] at hcs
    obtain ⟨rfl, rfl, rfl⟩ := hcs
    exact ⟨_, _, l, q, rfl, rfl, rfl⟩
  subst e1 e2 e3
  clear hA0 hval0
  refine (walkTreeSays a0 a1 a2' cap2' l2 W w0 w1 w2).mono fun e W' ⟨he, bel⟩ => ?_
  subst he
  exact ⟨_, rfl, _, _, _, [], _, [], hW', trodAll_mk1 (shut_bool Try.underlying4 _), (trodAll_cons_mk (shut_int Try.underlying3 w0) (trodAll_cons_mk (shut_int Try.underlying3 w1) (trodAll_cons_mk (Below.trod laidOut (by kernel_rfl) (of_decide_eq_true (by kernel_rfl)) k2 bel lt2) trodAll_mk0))), rfl, bel.frame _, fun h => by cases h⟩

theorem overTreeSays : Rows.treeSaysRow.holds Try.pinned (OpenSpec.ofChange Rows.treeSaysSpec) :=
  OpenClaim.holds_of_wide 4 Try.f4 rfl rfl rfl rfl rfl rfl rfl ⟨rfl, rfl, rfl, rfl, rfl⟩ rfl rfl rfl rfl rfl (by kernel_rfl) Try.func4 (by kernel_rfl)
    (of_decide_eq_true (by kernel_rfl)) (by unfold Func.isWrapper; first | (rw [if_pos (by decide +kernel)]; kernel_rfl) | (rw [if_neg (by decide +kernel)]; exact ⟨rfl, rfl⟩))
    (fun os started H enc _ => liftedTreeSays os started H enc)

/-- The statement. -/
theorem treeSays_holds : Rows.TreeSaysSaid := overTreeSays

#print axioms treeSays_holds
end Go.Proofs.Ytonkmbnnbpbhiaa
