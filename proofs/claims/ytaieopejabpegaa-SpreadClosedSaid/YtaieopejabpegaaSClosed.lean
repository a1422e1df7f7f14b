/- The statement SpreadClosed: a port that doesn't forward changes nothing at the others. Its condition: Wants' contract. -/
import Derived.Test.YtaieopejabpegaaSWants
import Derived.Test.YtaieopejabpegaaSnOwn
import Derived.Deep.RegionLaw
import Derived.Deep.RegionHeld3
namespace Go.Proofs.Ytaieopejabpegaa
open Go.RowKit
set_option maxRecDepth 100000

set_option maxHeartbeats 16000000 in
theorem walkClosed (HWI : WantsIs) (A : Option Addr) (c : Nat) (l : List Vx) (a : At) (own at_ : Int) (w : World) (hA : VxAt w w.heap.size A l) (hl : l.length * 56 ≤ 140737488351232) (hc : l.length ≤ c ∧ (A = none → c = 0)) :
    Calls Try.prog 6 #[.slice A l.length c, .agg #[.int .i64 a.t, .int .i64 a.v], .int .i64 own, .int .i64 at_] w fun e w' => e = .returned (.bool true) ∧ Below w.heap.size w w' := by
  obtain ⟨n, hn⟩ : ∃ n, l.length = n := ⟨_, rfl⟩
  have HPL := Lib.hid (fun (V : World) (hV : Below w.heap.size w V) => splain_any A c l V ((hA.below hV).more hV.size) hl)
  have HWC := Lib.hid (fun (V : World) (hV : Below w.heap.size w V) h20 hs => HWI A c l a own V ((hA.below hV).more hV.size) h20 hs)
  have HA := Lib.hid hA
  have HN := Lib.hid hn
  rw [hn] at HPL HWC hc ⊢
  have HCC := Lib.hid hc
  have HB0 := Lib.hid (box1 w a)
  clear hA hl hn hc
  go_enter Try.func6, Try.ntmps6
  go_wp2_with fail
  refine (salive_any HWI _).mono ?_
  rintro e v1 ⟨rfl, b1⟩
  have HB1 := Lib.hid (HB0.out.below b1)
  clear b1
  have HP1 := Lib.hid (HPL.out v1 HB1.out.1)
  have a0 := HB1.out.2.cell 0
  have a1 := HB1.out.2.cell 1
  go_wp2_with fail
  refine HP1.out.mono ?_
  rintro e v2 ⟨(⟨z, rfl⟩ | ⟨Am, cm, rfl, hm, hcm, h20, hsm⟩), b2⟩
  · have HE := Lib.hid (HB1.out.below b2)
    clear b2 a0 a1
    go_wp2_with fail
    go_ret
    exact ⟨rfl, HE.out.1⟩
  have HB2 := Lib.hid (HB1.out.below b2)
  have HM := Lib.hid (And.intro hm (And.intro h20 hsm))
  clear b2 hm hcm h20 hsm a0 a1
  by_cases d0 : at_ < 0
  · have HE := Lib.hid HB2.out.1
    go_wp2_with fail
    go_ret
    exact ⟨rfl, HE.out⟩
  obtain ⟨k, hk⟩ : ∃ k : Nat, (k : Int) = at_ := ⟨at_.toNat, by omega⟩
  subst hk
  have d0' : (0 : Int) ≤ k := by omega
  clear d0
  by_cases d1 : n ≤ k
  · have d1' : (n : Int) ≤ k := by omega
    have HE := Lib.hid HB2.out.1
    go_wp2_with fail
    go_ret
    exact ⟨rfl, HE.out⟩
  have d1' : (k : Int) < n := by omega
  obtain ⟨⟨b, off, eA, hbl, hc⟩, hr⟩ := HA.out k (by rw [HN.out]; omega)
  have q0 := (hc.below HB2.out.1 hbl).c0
  obtain ⟨op, hop⟩ : ∃ op, (l.getD k vx0).op = op := ⟨_, rfl⟩
  rw [hop] at q0
  have HOP := Lib.hid hop
  have HD := Lib.hid d1
  subst eA
  clear d1 hbl hc hr hop
  cases op with
  | true =>
    have HE := Lib.hid HB2.out.1
    go_wp2_with fail
    go_ret
    exact ⟨rfl, HE.out⟩
  | false =>
    have HW2 := Lib.hid (HWC.out v2 HB2.out.1 HM.out.2.1 HM.out.2.2)
    have a0 := HB2.out.2.cell 0
    have a1 := HB2.out.2.cell 1
    go_wp2_with fail
    refine HW2.out.mono ?_
    rintro e v3 ⟨Aw, cw, rfl, hi, hcw, b3⟩
    have HI := Lib.hid hi
    have HCW := Lib.hid hcw
    have HB3 := Lib.hid (HB2.out.below b3)
    clear hi hcw b3 a0 a1 q0
    obtain ⟨CX, hCX⟩ : ∃ CX, l.take k ++ l.drop (k + 1) = CX := ⟨_, rfl⟩
    have hkn : k < n := by have := HD.out; omega
    have hlt : (l.take k).length = k := by rw [List.length_take, HN.out]; omega
    have hld : (l.drop (k + 1)).length = n - (k + 1) := by rw [List.length_drop, HN.out]
    have hCl : CX.length = k + (n - (k + 1)) := by rw [← hCX, List.length_append, hlt, hld]
    have hCv : vws CX = cutV (vws l) k := by rw [← hCX]; unfold vws cutV; rw [List.map_append, List.map_take, List.map_drop]
    have hmem : ∀ i, i < CX.length → ∃ i', i' < n ∧ CX.getD i vx0 = l.getD i' vx0 := fun i hi => by
      rw [← hCX, List.getD_eq_getElem?_getD, List.getElem?_append, hlt]
      split
      · exact ⟨i, by omega, by rw [List.getElem?_take, if_pos (by assumption), List.getD_eq_getElem?_getD]⟩
      · refine ⟨k + 1 + (i - k), by omega, by rw [List.getElem?_drop, List.getD_eq_getElem?_getD]⟩
    have hV1 := bel_alloc v3.drew (.cells #[] 43)
    have hB3 : Below w.heap.size w v3.drew := HB3.out.1.drew
    have hB31 : Below w.heap.size w (v3.drew.alloc (.cells #[] 43)) := hB3.trans (hV1.mono hB3.size)
    have HCN := Lib.hid HCC.out.1
    have HKN := Lib.hid hkn
    have h20 := HM.out.2.1
    have o4 : OwnS (v3.drew.alloc (.cells #[] 43)) v3.heap.size (some ⟨v3.drew.heap.size, 0, none⟩) 0 [] := own_blank v3.drew v3.heap.size 3 43 (Nat.le_refl _)
    obtain ⟨s1, t1, w5, hr1, o5, g5⟩ := append_s (v3.drew.alloc (.cells #[] 43)) v3.heap.size (some ⟨v3.drew.heap.size, 0, none⟩) 0 0 [] rfl o4 (some ⟨b, off, none⟩) c k w.heap.size (l.take k) hlt (fun h => by cases h) ((HA.out.below hB31).take k) (by rw [hlt]; show 0 + k ≤ 1048576; omega) hV1.size
    rw [List.nil_append] at o5
    rw [Nat.zero_add] at hr1
    have b5 : Below v3.heap.size v3.drew w5 := hV1.trans (bel_own o4 g5 (Nat.le_refl _) hV1.size)
    have hB5 : Below w.heap.size w w5 := hB3.trans (b5.mono hB3.size)
    have HJ := Lib.hid (fun (A9 : Option Addr) (c9 : Nat) (h9 : VxAt w5 w.heap.size A9 (l.drop (k + 1))) (h9' : A9 = none → c9 = 0) => (show ∃ s2 t2 w6, (Builtin.append_ #[22, 22] 22 #[.slice s1 k t1, .slice A9 (n - (k + 1)) c9]).run Try.prog w5 = .ok (.slice s2 (k + (n - (k + 1))) t2) w6 ∧ VxAt w6 w6.heap.size s2 CX ∧ Below v3.heap.size v3.drew w6 by
      obtain ⟨s2, t2, w6, hr2, o6, g6⟩ := append_s w5 v3.heap.size s1 t1 k (l.take k) hlt o5 A9 c9 (n - (k + 1)) w.heap.size (l.drop (k + 1)) hld h9' h9 (by rw [hlt, hld]; omega) b5.size
      have o5' := o5
      unfold OwnS at o5'
      rw [hlt] at o5'
      have b6 : Below v3.heap.size v3.drew w6 := b5.trans (bel_own o5' g6 (Nat.le_refl _) b5.size)
      rw [hCX] at o6
      have hB6 : Below w.heap.size w w6 := hB3.trans (b6.mono hB3.size)
      refine ⟨s2, t2, w6, hr2, o6.vx fun i hi => ?_, b6⟩
      obtain ⟨i', hi', e⟩ := hmem i hi
      rw [e]
      exact Vx.rows_more (Vx.rows_below (HA.out i' (by rw [HN.out]; exact hi')).2 hB6) hB6.size))
    have HW9 := Lib.hid (fun (s2 : Option Addr) (t2 : Nat) (w6 : World) (h6 : VxAt w6 w6.heap.size s2 CX) => (by
      have h := HWI s2 t2 CX a own w6 h6 (by rw [hCl]; omega) (fun i hi => by
        obtain ⟨i', hi', e⟩ := hmem i hi
        rw [e]
        exact HM.out.2.2 i' hi')
      rw [hCl, hCv] at h
      exact h : Calls Try.prog 10 #[.slice s2 (k + (n - (k + 1))) t2, .agg #[.int .i64 a.t, .int .i64 a.v], .int .i64 own] w6 fun e w' => ∃ A' c', e = .returned (.slice A' (k + (n - (k + 1))) c') ∧ IntAt w' w'.heap.size A' (wantsL (cutV (vws l) k) a own) ∧ k + (n - (k + 1)) ≤ c' ∧ Below w6.heap.size w6 w'))
    have HB35 := Lib.hid (And.intro hB5 b5)
    have HBX := Lib.hid (fun (V : World) (hV : Below v3.heap.size v3.drew V) => (show V.cell? ⟨w.heap.size, 0, none⟩ = some (.int .i64 a.t) ∧ V.cell? ⟨w.heap.size, 1, none⟩ = some (.int .i64 a.v) by
      have h := Blk.below HB3.out.2.drew hV HB3.out.2.lt
      exact ⟨h.cell 0, h.cell 1⟩))
    have x0 := (HBX.out _ (Below.refl _ _)).1
    have x1 := (HBX.out _ (Below.refl _ _)).2
    have y0 := (HBX.out _ hV1).1
    have y1 := (HBX.out _ hV1).2
    have v0 : (v3.alloc (.cells #[] 43)).drew.cell? ⟨w.heap.size, 0, none⟩ = some (.int .i64 a.t) := y0
    have v1 : (v3.alloc (.cells #[] 43)).drew.cell? ⟨w.heap.size, 1, none⟩ = some (.int .i64 a.v) := y1
    have z0 := (HBX.out _ b5).1
    have z1 := (HBX.out _ b5).2
    have HR1 := Lib.hid hr1
    have ncI : (n : Int) ≤ c := by have := HCN.out; omega
    have nc' : n ≤ c := HCN.out
    have kk1 : k + 1 ≤ c := by omega
    have kk2 : k ≤ c := by omega
    have kkw : wrap64 ((k : Int) + 1) = (k : Int) + 1 := IntWalk.wrap64_in _ (by omega)
    have kkv : IntKind.i64.wrap ((k : Int) + 1) = (k : Int) + 1 := by
      show (if _ then _ else _) = _
      have : ((k : Int) + 1) % 2 ^ 64 = (k : Int) + 1 := Int.emod_eq_of_lt (by omega) (by omega)
      simp only [IntKind.bits, IntKind.signed, this]
      rw [if_neg (by simp; omega)]
    have kkn : ((k : Int) + 1).toNat = k + 1 := by omega
    have kk0 : (0 : Int) ≤ (k : Int) + 1 := by omega
    have kk3 : (k : Int) + 1 ≤ n := by omega
    have kk4 : (k : Int) ≤ c := by omega
    have kk5 : (k : Int) ≤ (k : Int) + 1 := by omega
    clear hCX hlt hld hCl hCv hmem hV1 hB3 hB31 o4 hr1 o5 g5 b5 hB5
    by_cases hck : c = k + 1
    · obtain rfl : n = k + 1 := by omega
      subst hck
      obtain ⟨s2, t2, w6, hr2, hv6, b6⟩ := HJ.out (some ⟨b, off, none⟩) 0 (fun i hi => absurd hi (by rw [List.length_drop, HN.out]; omega)) (fun h => by cases h)
      have e0 : k + 1 - (k + 1) = 0 := by omega
      have HW7 := Lib.hid (HW9.out s2 t2 w6 hv6)
      have u0 := (HBX.out _ b6).1
      have u1 := (HBX.out _ b6).2
      have HB6 := Lib.hid b6
      rw [e0, Nat.add_zero] at hr2 HW7
      clear hv6 b6
      go_wp2_with fail
      go_region_held3 (fun w' => w'.cell? ⟨w.heap.size, 0, none⟩ = some (.int .i64 a.t) ∧ w'.cell? ⟨w.heap.size, 1, none⟩ = some (.int .i64 a.v))
        (first
          | (with_reducible exact ⟨x0, x1⟩)
          | (with_reducible exact ⟨y0, y1⟩)
          | (with_reducible exact ⟨v0, v1⟩)
          | (with_reducible exact ⟨z0, z1⟩)
          | (with_reducible exact ⟨u0, u1⟩)
          | (with_reducible exact tt7)
          | fail)
        (first
          | (refine step_append_run rfl (.tmp 43) (.tmp 46) 22 22 rfl _ _ (by simp [Act.eval]) (by simp [Act.eval]) HR1.out ?_)
          | (refine step_append_run rfl (.tmp 47) (.tmp 51) 22 22 rfl _ _ (by simp [Act.eval]) (by simp [Act.eval]) hr2 ?_)
          | (go_at_call 10; (with_reducible (refine HW7.out.mono ?_)); rintro e w7 ⟨A7, c7, rfl, h7, hc7, b7⟩; have tt7 := HBX.out w7 (HB6.out.trans (b7.mono HB6.out.size))))
      all_goals
        have hwl : (wantsL (vws l) a own).length = k + 1 := by rw [wantsL_length, vws_length]; exact HN.out
        have hkl : k < (vws l).length := by rw [vws_length, HN.out]; exact HKN.out
        have hop : ((vws l).getD k vw0).op = false := by rw [vws_at l (by rw [HN.out]; exact HKN.out)]; exact HOP.out
        have hcl := closed_list hkl hop a own
        have hm1 := (closed_plain hkl hop a own).1
        obtain ⟨bw, ow, eW, hbw, cW⟩ := HI.out k (by rw [hwl]; exact HKN.out)
        have b37 : Below v3.heap.size v3 w7 := (Below.refl _ _).drew.trans (HB6.out.trans (b7.mono HB6.out.size))
        have q1 := (b37.cell (p := ⟨bw, ow + k, none⟩) hbw).trans cW
        rw [wantsL_at _ _ _ hkl, hm1] at q1
        have hwc : (wantsL (cutV (vws l) k) a own).length = k := by rw [wantsL_length, cut_length hkl, vws_length, HN.out]; have := HKN.out; omega
        have HBW := Lib.hid ((HB3.out.1.trans (b37.mono HB3.out.1.size)))
        have B37 := Lib.hid b37
        have HWX := Lib.hid (And.intro hwl (And.intro hwc hcl))
        have HIW := Lib.hid HI.out
        obtain ⟨wl, hwl'⟩ : ∃ wl, wantsL (vws l) a own = wl := ⟨_, rfl⟩
        obtain ⟨wc, hwc'⟩ : ∃ wc, wantsL (cutV (vws l) k) a own = wc := ⟨_, rfl⟩
        rw [hwl', hwc'] at HWX
        rw [hwl'] at HIW
        rw [hwc'] at h7
        have H7 := Lib.hid (And.intro h7 hc7)
        subst eW
        have g20 := HM.out.2.1
        have gcw : k + 1 ≤ cw := HCW.out
        have gkn : k < k + 1 := HKN.out
        have gk4 : (k : Int) ≤ cw := by omega
        have gk6 : (k + 1 : Nat) ≤ (cw : Int) := by omega
        have gk7 : k + 1 ≤ cw := by omega
        have gk9 : (k : Int) < (k : Int) + 1 := by omega
        have gk8 : k ≤ cw := by omega
        have q1' : w7.drew.cell? ⟨bw, ow + k, none⟩ = some (.int .i64 (-1)) := q1
        have hbw' : bw < w7.heap.size := Nat.lt_of_lt_of_le hbw b37.size
        clear h7 hc7 b7 hwl hkl hop hcl hm1 hbw cW b37 hwc hwl' hwc' u0 u1 x0 x1 y0 y1 z0 z1 v0 v1 hr2 HW7 HB6 HJ HW9 HBX HI
        have p1 := bel_alloc w7.drew (.cells #[] 3)
        have o8 : OwnJ (w7.drew.alloc (.cells #[] 3)) w7.heap.size (some ⟨w7.drew.heap.size, 0, none⟩) 0 [] := own_blank w7.drew w7.heap.size 1 3 (Nat.le_refl _)
        have ht1 : (wl.take k).length = k := by rw [List.length_take, HWX.out.1]; omega
        have ht2 : (wl.drop (k + 1)).length = 0 := by rw [List.length_drop, HWX.out.1]; omega
        have bV : Below w7.heap.size w7 (w7.drew.alloc (.cells #[] 3)) := (Below.refl _ _).drew.trans p1
        obtain ⟨s3, t3, w9, hr3, o9, g9⟩ := append_j (w7.drew.alloc (.cells #[] 3)) w7.heap.size (some ⟨w7.drew.heap.size, 0, none⟩) 0 0 [] rfl o8 (some ⟨bw, ow, none⟩) cw k v3.heap.size (wl.take k) ht1 (fun h => by cases h) ((HIW.out.below (B37.out.trans (bV.mono B37.out.size))).take k) (by rw [ht1]; show 0 + k ≤ 1048576; omega) p1.size
        rw [List.nil_append] at o9
        rw [Nat.zero_add] at hr3
        have b9 : Below w7.heap.size w7 w9 := bV.trans (bel_own o8 g9 (Nat.le_refl _) p1.size)
        have HJ2 := Lib.hid (fun (A9 : Option Addr) (c9 : Nat) (h9 : IntAt w9 v3.heap.size A9 (wl.drop (k + 1))) (h9' : A9 = none → c9 = 0) => (show ∃ s4 t4 w10, (Builtin.append_ #[29, 29] 29 #[.slice s3 k t3, .slice A9 0 c9]).run Try.prog w9 = .ok (.slice s4 (k) t4) w10 ∧ IntAt w10 w10.heap.size s4 wc ∧ Below w7.heap.size w7 w10 by
          obtain ⟨s4, t4, w10, hr4, o10, g10⟩ := append_j w9 w7.heap.size s3 t3 k (wl.take k) ht1 o9 A9 c9 (0) v3.heap.size (wl.drop (k + 1)) ht2 h9' h9 (by rw [ht1, ht2]; omega) b9.size
          have o9' := o9
          unfold OwnJ at o9'
          rw [ht1] at o9'
          rw [HWX.out.2.2] at o10
          exact ⟨s4, t4, w10, hr4, o10.at_, b9.trans (bel_own o9' g10 (Nat.le_refl _) b9.size)⟩))
        have HS9 := Lib.hid (fun (s4 : Option Addr) (t4 : Nat) (w10 : World) (h10 : IntAt w10 w10.heap.size s4 wc) (b10 : Below w7.heap.size w7 w10) => (by
          have h := sames_any (c := t4) (c' := c7) (n := k) (m := k) HWX.out.2.1 HWX.out.2.1 (by omega) h10 ((H7.out.1.below b10).more b10.size)
          rw [decide_eq_true rfl] at h
          exact h : Calls Try.prog 15 #[.slice s4 (k) t4, .slice A7 (k) c7] w10 fun e w' => e = .returned (.bool true) ∧ Below w10.heap.size w10 w'))
        have HR3 := Lib.hid hr3
        have qV1 : (w7.drew.alloc (.cells #[] 3)).cell? ⟨bw, ow + k, none⟩ = some (.int .i64 (-1)) := (bV.cell (p := ⟨bw, ow + k, none⟩) hbw').trans q1
        have qV2 : (w7.alloc (.cells #[] 3)).drew.cell? ⟨bw, ow + k, none⟩ = some (.int .i64 (-1)) := qV1
        have qV9 := (b9.cell (p := ⟨bw, ow + k, none⟩) hbw').trans q1
        have HB9 := Lib.hid b9
        clear p1 o8 ht1 ht2 bV hr3 o9 g9 b9
        by_cases hcw : cw = k + 1
        · obtain ⟨s4, t4, w10, hr4, h10, b10⟩ := HJ2.out (some ⟨bw, ow, none⟩) 0 (fun i hi => absurd hi (by rw [List.length_drop, HWX.out.1]; omega)) (fun h => by cases h)
          have HSM := Lib.hid (HS9.out s4 t4 w10 h10 b10)
          have B10 := Lib.hid b10
          have qV10 := (b10.cell (p := ⟨bw, ow + k, none⟩) hbw').trans q1
          subst hcw
          clear h10 b10 HJ2 HS9
          go_wp2_with fail
          go_region_held3 (fun w' => w'.cell? ⟨bw, ow + k, none⟩ = some (.int .i64 (-1)))
            (first
              | (with_reducible exact q1')
              | (with_reducible exact qV1)
              | (with_reducible exact qV2)
              | (with_reducible exact qV9)
              | (with_reducible exact qV10)
              | (with_reducible exact qV11)
              | fail)
            (first
              | (refine step_append_on (by kernel_rfl) (.tmp 62) (.tmp 65) 29 29 rfl _ _ (by simp [Act.eval]) (by simp [Act.eval]) HR3.out ?_)
              | (refine step_append_on (by kernel_rfl) (.tmp 66) (.tmp 70) 29 29 rfl _ _ (by simp [Act.eval]) (by simp [Act.eval]) hr4 ?_)
              | (go_at_call 15; (with_reducible (refine HSM.out.mono ?_)); rintro e w11 ⟨rfl, b11⟩; have qV11 := (b11.cell (p := ⟨bw, ow + k, none⟩) (Nat.lt_of_lt_of_le hbw' B10.out.size)).trans qV10))
          all_goals
            have HE := Lib.hid (B10.out.trans (b11.mono B10.out.size))
            clear b11 hr4 qV1 qV2 qV9 qV10 qV11 q1 q1'
            go_wp2_with fail
            go_ret
            exact ⟨rfl, HBW.out.trans (HE.out.mono HBW.out.size)⟩
        · have hcw' : k + 1 < cw := by omega
          obtain ⟨s4, t4, w10, hr4, h10, b10⟩ := HJ2.out (some ⟨bw, ow + (k + 1), none⟩) (cw - (k + 1)) ((HIW.out.below (B37.out.trans (HB9.out.mono B37.out.size))).drop (k + 1)) (fun h => by cases h)
          have HSM := Lib.hid (HS9.out s4 t4 w10 h10 b10)
          have B10 := Lib.hid b10
          have qV10 := (b10.cell (p := ⟨bw, ow + k, none⟩) hbw').trans q1
          clear h10 b10 HJ2 HS9
          go_wp2_with fail
          go_region_held3 (fun w' => w'.cell? ⟨bw, ow + k, none⟩ = some (.int .i64 (-1)))
            (first
              | (with_reducible exact q1')
              | (with_reducible exact qV1)
              | (with_reducible exact qV2)
              | (with_reducible exact qV9)
              | (with_reducible exact qV10)
              | (with_reducible exact qV11)
              | fail)
            (first
              | (refine step_append_on (by kernel_rfl) (.tmp 62) (.tmp 65) 29 29 rfl _ _ (by simp [Act.eval]) (by simp [Act.eval]) HR3.out ?_)
              | (refine step_append_on (by kernel_rfl) (.tmp 66) (.tmp 70) 29 29 rfl _ _ (by simp [Act.eval]) (by simp [Act.eval]) hr4 ?_)
              | (go_at_call 15; (with_reducible (refine HSM.out.mono ?_)); rintro e w11 ⟨rfl, b11⟩; have qV11 := (b11.cell (p := ⟨bw, ow + k, none⟩) (Nat.lt_of_lt_of_le hbw' B10.out.size)).trans qV10))
          all_goals
            have HE := Lib.hid (B10.out.trans (b11.mono B10.out.size))
            clear b11 hr4 qV1 qV2 qV9 qV10 qV11 q1 q1'
            go_wp2_with fail
            go_ret
            exact ⟨rfl, HBW.out.trans (HE.out.mono HBW.out.size)⟩
    · have hck' : k + 1 < c := by omega
      obtain ⟨s2, t2, w6, hr2, hv6, b6⟩ := HJ.out (some ⟨b, off + (k + 1) * 3, none⟩) (c - (k + 1)) ((HA.out.below HB35.out.1).drop (k + 1)) (fun h => by cases h)
      have HW7 := Lib.hid (HW9.out s2 t2 w6 hv6)
      have u0 := (HBX.out _ b6).1
      have u1 := (HBX.out _ b6).2
      have HB6 := Lib.hid b6
      clear hv6 b6
      go_wp2_with fail
      go_region_held3 (fun w' => w'.cell? ⟨w.heap.size, 0, none⟩ = some (.int .i64 a.t) ∧ w'.cell? ⟨w.heap.size, 1, none⟩ = some (.int .i64 a.v))
        (first
          | (with_reducible exact ⟨x0, x1⟩)
          | (with_reducible exact ⟨y0, y1⟩)
          | (with_reducible exact ⟨v0, v1⟩)
          | (with_reducible exact ⟨z0, z1⟩)
          | (with_reducible exact ⟨u0, u1⟩)
          | (with_reducible exact tt7)
          | fail)
        (first
          | (refine step_append_run rfl (.tmp 43) (.tmp 46) 22 22 rfl _ _ (by simp [Act.eval]) (by simp [Act.eval]) HR1.out ?_)
          | (refine step_append_run rfl (.tmp 47) (.tmp 51) 22 22 rfl _ _ (by simp [Act.eval]) (by simp [Act.eval]) hr2 ?_)
          | (go_at_call 10; (with_reducible (refine HW7.out.mono ?_)); rintro e w7 ⟨A7, c7, rfl, h7, hc7, b7⟩; have tt7 := HBX.out w7 (HB6.out.trans (b7.mono HB6.out.size))))
      all_goals
        have hwl : (wantsL (vws l) a own).length = n := by rw [wantsL_length, vws_length]; exact HN.out
        have hkl : k < (vws l).length := by rw [vws_length, HN.out]; exact HKN.out
        have hop : ((vws l).getD k vw0).op = false := by rw [vws_at l (by rw [HN.out]; exact HKN.out)]; exact HOP.out
        have hcl := closed_list hkl hop a own
        have hm1 := (closed_plain hkl hop a own).1
        obtain ⟨bw, ow, eW, hbw, cW⟩ := HI.out k (by rw [hwl]; exact HKN.out)
        have b37 : Below v3.heap.size v3 w7 := (Below.refl _ _).drew.trans (HB6.out.trans (b7.mono HB6.out.size))
        have q1 := (b37.cell (p := ⟨bw, ow + k, none⟩) hbw).trans cW
        rw [wantsL_at _ _ _ hkl, hm1] at q1
        have hwc : (wantsL (cutV (vws l) k) a own).length = k + (n - (k + 1)) := by rw [wantsL_length, cut_length hkl, vws_length, HN.out]; have := HKN.out; omega
        have HBW := Lib.hid ((HB3.out.1.trans (b37.mono HB3.out.1.size)))
        have B37 := Lib.hid b37
        have HWX := Lib.hid (And.intro hwl (And.intro hwc hcl))
        have HIW := Lib.hid HI.out
        obtain ⟨wl, hwl'⟩ : ∃ wl, wantsL (vws l) a own = wl := ⟨_, rfl⟩
        obtain ⟨wc, hwc'⟩ : ∃ wc, wantsL (cutV (vws l) k) a own = wc := ⟨_, rfl⟩
        rw [hwl', hwc'] at HWX
        rw [hwl'] at HIW
        rw [hwc'] at h7
        have H7 := Lib.hid (And.intro h7 hc7)
        subst eW
        have g20 := HM.out.2.1
        have gcw : n ≤ cw := HCW.out
        have gkn : k < n := HKN.out
        have gk4 : (k : Int) ≤ cw := by omega
        have gk6 : (n : Nat) ≤ (cw : Int) := by omega
        have gk7 : k + 1 ≤ cw := by omega
        have gk9 : (k : Int) < (k : Int) + 1 := by omega
        have gk8 : k ≤ cw := by omega
        have q1' : w7.drew.cell? ⟨bw, ow + k, none⟩ = some (.int .i64 (-1)) := q1
        have hbw' : bw < w7.heap.size := Nat.lt_of_lt_of_le hbw b37.size
        clear h7 hc7 b7 hwl hkl hop hcl hm1 hbw cW b37 hwc hwl' hwc' u0 u1 x0 x1 y0 y1 z0 z1 v0 v1 hr2 HW7 HB6 HJ HW9 HBX HI
        have p1 := bel_alloc w7.drew (.cells #[] 3)
        have o8 : OwnJ (w7.drew.alloc (.cells #[] 3)) w7.heap.size (some ⟨w7.drew.heap.size, 0, none⟩) 0 [] := own_blank w7.drew w7.heap.size 1 3 (Nat.le_refl _)
        have ht1 : (wl.take k).length = k := by rw [List.length_take, HWX.out.1]; omega
        have ht2 : (wl.drop (k + 1)).length = n - (k + 1) := by rw [List.length_drop, HWX.out.1]
        have bV : Below w7.heap.size w7 (w7.drew.alloc (.cells #[] 3)) := (Below.refl _ _).drew.trans p1
        obtain ⟨s3, t3, w9, hr3, o9, g9⟩ := append_j (w7.drew.alloc (.cells #[] 3)) w7.heap.size (some ⟨w7.drew.heap.size, 0, none⟩) 0 0 [] rfl o8 (some ⟨bw, ow, none⟩) cw k v3.heap.size (wl.take k) ht1 (fun h => by cases h) ((HIW.out.below (B37.out.trans (bV.mono B37.out.size))).take k) (by rw [ht1]; show 0 + k ≤ 1048576; omega) p1.size
        rw [List.nil_append] at o9
        rw [Nat.zero_add] at hr3
        have b9 : Below w7.heap.size w7 w9 := bV.trans (bel_own o8 g9 (Nat.le_refl _) p1.size)
        have HJ2 := Lib.hid (fun (A9 : Option Addr) (c9 : Nat) (h9 : IntAt w9 v3.heap.size A9 (wl.drop (k + 1))) (h9' : A9 = none → c9 = 0) => (show ∃ s4 t4 w10, (Builtin.append_ #[29, 29] 29 #[.slice s3 k t3, .slice A9 (n - (k + 1)) c9]).run Try.prog w9 = .ok (.slice s4 (k + (n - (k + 1))) t4) w10 ∧ IntAt w10 w10.heap.size s4 wc ∧ Below w7.heap.size w7 w10 by
          obtain ⟨s4, t4, w10, hr4, o10, g10⟩ := append_j w9 w7.heap.size s3 t3 k (wl.take k) ht1 o9 A9 c9 (n - (k + 1)) v3.heap.size (wl.drop (k + 1)) ht2 h9' h9 (by rw [ht1, ht2]; omega) b9.size
          have o9' := o9
          unfold OwnJ at o9'
          rw [ht1] at o9'
          rw [HWX.out.2.2] at o10
          exact ⟨s4, t4, w10, hr4, o10.at_, b9.trans (bel_own o9' g10 (Nat.le_refl _) b9.size)⟩))
        have HS9 := Lib.hid (fun (s4 : Option Addr) (t4 : Nat) (w10 : World) (h10 : IntAt w10 w10.heap.size s4 wc) (b10 : Below w7.heap.size w7 w10) => (by
          have h := sames_any (c := t4) (c' := c7) (n := k + (n - (k + 1))) (m := k + (n - (k + 1))) HWX.out.2.1 HWX.out.2.1 (by omega) h10 ((H7.out.1.below b10).more b10.size)
          rw [decide_eq_true rfl] at h
          exact h : Calls Try.prog 15 #[.slice s4 (k + (n - (k + 1))) t4, .slice A7 (k + (n - (k + 1))) c7] w10 fun e w' => e = .returned (.bool true) ∧ Below w10.heap.size w10 w'))
        have HR3 := Lib.hid hr3
        have qV1 : (w7.drew.alloc (.cells #[] 3)).cell? ⟨bw, ow + k, none⟩ = some (.int .i64 (-1)) := (bV.cell (p := ⟨bw, ow + k, none⟩) hbw').trans q1
        have qV2 : (w7.alloc (.cells #[] 3)).drew.cell? ⟨bw, ow + k, none⟩ = some (.int .i64 (-1)) := qV1
        have qV9 := (b9.cell (p := ⟨bw, ow + k, none⟩) hbw').trans q1
        have HB9 := Lib.hid b9
        clear p1 o8 ht1 ht2 bV hr3 o9 g9 b9
        by_cases hcw : cw = k + 1
        · obtain ⟨s4, t4, w10, hr4, h10, b10⟩ := HJ2.out (some ⟨bw, ow, none⟩) 0 (fun i hi => absurd hi (by rw [List.length_drop, HWX.out.1]; omega)) (fun h => by cases h)
          have HSM := Lib.hid (HS9.out s4 t4 w10 h10 b10)
          have B10 := Lib.hid b10
          have qV10 := (b10.cell (p := ⟨bw, ow + k, none⟩) hbw').trans q1
          obtain rfl : n = k + 1 := by omega
          rw [show k + 1 - (k + 1) = 0 by omega] at hr4 HSM
          rw [Nat.add_zero] at hr4 HSM
          subst hcw
          clear h10 b10 HJ2 HS9
          go_wp2_with fail
          go_region_held3 (fun w' => w'.cell? ⟨bw, ow + k, none⟩ = some (.int .i64 (-1)))
            (first
              | (with_reducible exact q1')
              | (with_reducible exact qV1)
              | (with_reducible exact qV2)
              | (with_reducible exact qV9)
              | (with_reducible exact qV10)
              | (with_reducible exact qV11)
              | fail)
            (first
              | (refine step_append_on (by kernel_rfl) (.tmp 62) (.tmp 65) 29 29 rfl _ _ (by simp [Act.eval]) (by simp [Act.eval]) HR3.out ?_)
              | (refine step_append_on (by kernel_rfl) (.tmp 66) (.tmp 70) 29 29 rfl _ _ (by simp [Act.eval]) (by simp [Act.eval]) hr4 ?_)
              | (go_at_call 15; (with_reducible (refine HSM.out.mono ?_)); rintro e w11 ⟨rfl, b11⟩; have qV11 := (b11.cell (p := ⟨bw, ow + k, none⟩) (Nat.lt_of_lt_of_le hbw' B10.out.size)).trans qV10))
          all_goals
            have HE := Lib.hid (B10.out.trans (b11.mono B10.out.size))
            clear b11 hr4 qV1 qV2 qV9 qV10 qV11 q1 q1'
            go_wp2_with fail
            go_ret
            exact ⟨rfl, HBW.out.trans (HE.out.mono HBW.out.size)⟩
        · have hcw' : k + 1 < cw := by omega
          obtain ⟨s4, t4, w10, hr4, h10, b10⟩ := HJ2.out (some ⟨bw, ow + (k + 1), none⟩) (cw - (k + 1)) ((HIW.out.below (B37.out.trans (HB9.out.mono B37.out.size))).drop (k + 1)) (fun h => by cases h)
          have HSM := Lib.hid (HS9.out s4 t4 w10 h10 b10)
          have B10 := Lib.hid b10
          have qV10 := (b10.cell (p := ⟨bw, ow + k, none⟩) hbw').trans q1
          clear h10 b10 HJ2 HS9
          go_wp2_with fail
          go_region_held3 (fun w' => w'.cell? ⟨bw, ow + k, none⟩ = some (.int .i64 (-1)))
            (first
              | (with_reducible exact q1')
              | (with_reducible exact qV1)
              | (with_reducible exact qV2)
              | (with_reducible exact qV9)
              | (with_reducible exact qV10)
              | (with_reducible exact qV11)
              | fail)
            (first
              | (refine step_append_on (by kernel_rfl) (.tmp 62) (.tmp 65) 29 29 rfl _ _ (by simp [Act.eval]) (by simp [Act.eval]) HR3.out ?_)
              | (refine step_append_on (by kernel_rfl) (.tmp 66) (.tmp 70) 29 29 rfl _ _ (by simp [Act.eval]) (by simp [Act.eval]) hr4 ?_)
              | (go_at_call 15; (with_reducible (refine HSM.out.mono ?_)); rintro e w11 ⟨rfl, b11⟩; have qV11 := (b11.cell (p := ⟨bw, ow + k, none⟩) (Nat.lt_of_lt_of_le hbw' B10.out.size)).trans qV10))
          all_goals
            have HE := Lib.hid (B10.out.trans (b11.mono B10.out.size))
            clear b11 hr4 qV1 qV2 qV9 qV10 qV11 q1 q1'
            go_wp2_with fail
            go_ret
            exact ⟨rfl, HBW.out.trans (HE.out.mono HBW.out.size)⟩
end Go.Proofs.Ytaieopejabpegaa
