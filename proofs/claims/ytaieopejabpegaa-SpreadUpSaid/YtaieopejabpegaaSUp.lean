/- The statement SpreadUp: a later word at a port never makes what is said elsewhere elder. Its condition: Wants' contract. -/
import Derived.Test.YtaieopejabpegaaSWants
import Derived.Test.YtaieopejabpegaaSnUp
import Derived.Deep.RegionHeld3
import Derived.Deep.DeepCutAuto
import Derived.BigQuiet
namespace Go.Proofs.Ytaieopejabpegaa
open Go.RowKit
set_option maxRecDepth 100000

theorem blk_two (w : World) (o : Obj) (t : TypeId) (cs : Array Value) : Blk ((w.alloc o).alloc (.cells cs t)) (w.heap.size + 1) t cs := by
  have := Blk.new (w.alloc o) t cs
  rw [alloc_size] at this
  exact this
set_option maxHeartbeats 16000000 in
theorem walkUp (HWI : WantsIs) (A : Option Addr) (c : Nat) (l : List Vx) (a : At) (own at_ born : Int) (w : World) (hA : VxAt w w.heap.size A l) (hl : l.length * 56 ≤ 140737488351232) (hc : l.length ≤ c ∧ (A = none → c = 0)) :
    Calls Try.prog 7 #[.slice A l.length c, .agg #[.int .i64 a.t, .int .i64 a.v], .int .i64 own, .int .i64 at_, .int .i64 born] w fun e w' => e = .returned (.bool true) ∧ Below w.heap.size w w' := by
  obtain ⟨n, hn⟩ : ∃ n, l.length = n := ⟨_, rfl⟩
  have HPL := Lib.hid (fun (V : World) (hV : Below w.heap.size w V) => splain_any A c l V ((hA.below hV).more hV.size) hl)
  have HWC := Lib.hid (fun (V : World) (hV : Below w.heap.size w V) h20 hs => HWI A c l a own V ((hA.below hV).more hV.size) h20 hs)
  have HA := Lib.hid hA
  have HN := Lib.hid hn
  rw [hn] at HPL HWC hc ⊢
  have HCC := Lib.hid hc
  have HB0 := Lib.hid (box1 w a)
  clear hA hl hn hc
  go_enter Try.func7, Try.ntmps7
  go_wp2_with fail
  refine (salive_any HWI _).mono ?_
  rintro e v1 ⟨rfl, b1⟩
  have HB1 := Lib.hid (HB0.out.below b1)
  clear b1
  have HP1 := Lib.hid (HPL.out v1 HB1.out.1)
  have a0 := HB1.out.2.cell 0
  have a1 := HB1.out.2.cell 1
  go_wp2_with fail
  refine HP1.out.mono ?_
  rintro e v2 ⟨(⟨z, rfl⟩ | ⟨Am, cm, rfl, hm, hcm, h20, hsm⟩), b2⟩
  · have HE := Lib.hid (HB1.out.below b2)
    clear b2 a0 a1
    go_wp2_with fail
    go_ret
    exact ⟨rfl, HE.out.1⟩
  have HB2 := Lib.hid (HB1.out.below b2)
  have HM := Lib.hid (And.intro hm (And.intro h20 hsm))
  clear b2 hm hcm h20 hsm a0 a1
  by_cases d0 : at_ < 0
  · have HE := Lib.hid HB2.out.1
    go_wp2_with fail
    go_ret
    exact ⟨rfl, HE.out⟩
  obtain ⟨k, hk⟩ : ∃ k : Nat, (k : Int) = at_ := ⟨at_.toNat, by omega⟩
  subst hk
  have d0' : (0 : Int) ≤ k := by omega
  clear d0
  by_cases d1 : n ≤ k
  · have d1' : (n : Int) ≤ k := by omega
    have HE := Lib.hid HB2.out.1
    go_wp2_with fail
    go_ret
    exact ⟨rfl, HE.out⟩
  have d1' : (k : Int) < n := by omega
  have hkn : k < n := by omega
  have hkl : k < l.length := by rw [HN.out]; exact hkn
  have h20 := HM.out.2.1
  have o4 : OwnS (v2.alloc (.cells #[] 43)) v2.heap.size (some ⟨v2.heap.size, 0, none⟩) 0 [] := own_blank v2 v2.heap.size 3 43 (Nat.le_refl _)
  have hV1 := bel_alloc v2 (.cells #[] 43)
  obtain ⟨s1, t1, w5, hr1, o5, g5⟩ := append_s (v2.alloc (.cells #[] 43)) v2.heap.size (some ⟨v2.heap.size, 0, none⟩) 0 0 [] rfl o4 A c n w.heap.size l HN.out HCC.out.2 (HA.out.below (HB2.out.1.trans (hV1.mono HB2.out.1.size))) (by show 0 + l.length ≤ 1048576; rw [HN.out]; omega) hV1.size
  rw [List.nil_append] at o5
  rw [Nat.zero_add] at hr1
  have b5 : Below v2.heap.size v2 w5 := hV1.trans (bel_own o4 g5 (Nat.le_refl _) hV1.size)
  have HB5 := Lib.hid (HB2.out.below b5)
  obtain ⟨bM, eM, hbM, hbMl, _⟩ := o5.at_ hkl
  subst eM
  have HO5 := Lib.hid o5
  have HBM := Lib.hid hbM
  have HB25 := Lib.hid b5
  clear o4 hV1 o5 g5 b5 hbM hbMl
  obtain ⟨⟨b, off, eA, hbl, hc⟩, hr⟩ := HA.out k hkl
  obtain ⟨x, hx⟩ : ∃ x, l.getD k vx0 = x := ⟨_, rfl⟩
  have hxl := (HM.out.2.2 k hkn).1
  have HXX := Lib.hid hx
  rw [hx] at hc hr hxl
  have HUP := Lib.hid (show bornV (Vx.v ⟨true, x.A, x.c, x.xs, x.A', x.c', x.bs⟩) a = bornO x.v a from rfl)
  obtain ⟨bo, hbo⟩ : ∃ bo, bornO x.v a = bo := ⟨_, rfl⟩
  rw [hbo] at HUP
  have HBO := Lib.hid hbo
  have hR := fun (V : World) (hV : Below v2.heap.size v2 V) => dborn_any ⟨true, x.A, x.c, x.xs, x.A', x.c', x.bs⟩ a V (Vx.rows_more (Vx.rows_below hr (HB2.out.1.trans (hV.mono HB2.out.1.size))) (HB2.out.1.trans (hV.mono HB2.out.1.size)).size) (by show x.xs.length ≤ 1048576; omega)
  have q2 := hc.below HB2.out.1 hbl
  obtain ⟨xop, xA, xc, xs, xA', xc', xbs⟩ := x
  obtain ⟨xn, hxn⟩ : ∃ xn, xs.length = xn := ⟨_, rfl⟩
  obtain ⟨xm, hxm⟩ : ∃ xm, xbs.length = xm := ⟨_, rfl⟩
  obtain ⟨p0, p1, p2⟩ := q2
  simp only [hxn, hxm] at p0 p1 p2
  simp only [HUP.out, Vx.cells, hxn, hxm] at hR
  have HR := Lib.hid hR
  have HLN := Lib.hid (And.intro hxn hxm)
  have HKEEP := Lib.hid (fun (V : World) (hV : Below v2.heap.size v2 V) => (show V.cell? ⟨w.heap.size, 0, none⟩ = some (.int .i64 a.t) ∧ V.cell? ⟨w.heap.size, 1, none⟩ = some (.int .i64 a.v) ∧ V.cell? ⟨b, off + k * 3, none⟩ = some (.bool xop) ∧ V.cell? ⟨b, off + k * 3 + 1, none⟩ = some (.slice xA xn xc) ∧ V.cell? ⟨b, off + k * 3 + 2, none⟩ = some (.slice xA' xm xc') by
    have hb := HB2.out.2.below hV HB2.out.2.lt
    have hl : b < v2.heap.size := Nat.lt_of_lt_of_le hbl HB2.out.1.size
    exact ⟨hb.cell 0, hb.cell 1, (hV.cell (p := ⟨b, off + k * 3, none⟩) hl).trans p0, (hV.cell (p := ⟨b, off + k * 3 + 1, none⟩) hl).trans p1, (hV.cell (p := ⟨b, off + k * 3 + 2, none⟩) hl).trans p2⟩))
  subst eA
  have L0 : Below v2.heap.size v2 w5.drew := HB25.out.drew
  have s0 := HKEEP.out _ L0
  have HOM := Lib.hid (fun (V : World) (hV : Below w5.heap.size w5 V) => HO5.out.below hV rfl)
  obtain ⟨mx, hmx⟩ : ∃ mx, (if born < bo then bo else born) = mx := ⟨_, rfl⟩
  obtain ⟨gA, hgA⟩ : ∃ gA, w5.heap.size = gA := ⟨_, rfl⟩
  have LA : Below v2.heap.size v2 (w5.alloc (.cells #[.int .i64 a.t, .int .i64 a.v] 24)).drew := L0.alloc L0.size _
  have sA := HKEEP.out _ LA
  have HR0 := Lib.hid (HR.out _ L0)
  have HRA := Lib.hid (HR.out _ LA)
  have HR1 := Lib.hid hr1
  clear hr hx hxl hbo hc hbl p0 p1 p2 hxn hxm hR hgA hr1
  have d0 : ¬ (k : Int) < 0 := by omega
  have d0b : decide ((k : Int) < 0) = false := decide_eq_false d0
  have d1b : decide (n ≤ k) = false := decide_eq_false d1
  go_upto_region 7 with (at_builtin; refine Lib.wpList_append_run _ rfl _ _ _ _ rfl _ _ rfl rfl _ _ HR1.out ?_)
  have HMX := Lib.hid (show max born bo = mx from by rw [← hmx]; split <;> omega)
  -- what the store leaves
  have HFIN := Lib.hid (fun (V : World) (gA gB : Nat) (hA : Blk V gA 24 #[.int .i64 a.t, .int .i64 a.v]) (hB : Blk V gB 3 #[.int .i64 mx]) (h5 : Below w5.heap.size w5 V) => (show Hid (∃ x' : Vx, VxAt (((V.setCell ⟨bM, k * 3, none⟩ (.bool xop)).setCell ⟨bM, k * 3 + 1, none⟩ (.slice (some ⟨gA, 0, none⟩) 1 1)).setCell ⟨bM, k * 3 + 2, none⟩ (.slice (some ⟨gB, 0, none⟩) 1 1))
      (((V.setCell ⟨bM, k * 3, none⟩ (.bool xop)).setCell ⟨bM, k * 3 + 1, none⟩ (.slice (some ⟨gA, 0, none⟩) 1 1)).setCell ⟨bM, k * 3 + 2, none⟩ (.slice (some ⟨gB, 0, none⟩) 1 1)).heap.size (some ⟨bM, 0, none⟩) (l.set k x') ∧ x'.v = upV ((vws l).getD k vw0) a born ∧ (x'.xs.length ≤ 40 ∧ x'.bs.length ≤ 100) ∧
      Below v2.heap.size v2 (((V.setCell ⟨bM, k * 3, none⟩ (.bool xop)).setCell ⟨bM, k * 3 + 1, none⟩ (.slice (some ⟨gA, 0, none⟩) 1 1)).setCell ⟨bM, k * 3 + 2, none⟩ (.slice (some ⟨gB, 0, none⟩) 1 1))) from by
    have hb2 : Below v2.heap.size v2 V := HB25.out.trans (h5.mono HB25.out.size)
    have hbw := HB2.out.1.trans (hb2.mono HB2.out.1.size)
    have h := put_x (HOM.out V h5) hkl xop a mx hA hB (B0 := w.heap.size) (fun i hi => Vx.rows_below (HA.out i hi).2 hbw) HB2.out.1.size (hb2.size)
    refine Lib.hid ⟨_, h.1, ?_, ⟨by show 1 ≤ 40; omega, by show 1 ≤ 100; omega⟩, hb2.trans h.2⟩
    rw [vws_at l hkl, HXX.out]
    show Vw.mk xop [a] [mx] = ⟨xop, [a], [max born (bornO _ a)]⟩
    rw [← HMX.out]
    have hb := HBO.out
    simp only [Vx.v] at hb ⊢
    rw [hb]))
  have HPUT := Lib.hid (fun (V : World) (h5 : Below w5.heap.size w5 V) => (show (V.cell? ⟨bM, k * 3, none⟩ = some (.bool xop) ∧ V.cell? ⟨bM, k * 3 + 1, none⟩ = some (.slice xA xn xc) ∧ V.cell? ⟨bM, k * 3 + 2, none⟩ = some (.slice xA' xm xc')) ∧ ∀ j, V.frozen? ⟨bM, j, none⟩ = false from by
    have ho := HOM.out V h5
    obtain ⟨b', eb, _, _, hc⟩ := ho.at_ hkl
    injection eb with eb
    injection eb with eb
    subst eb
    have hc := hc
    rw [HXX.out] at hc
    refine ⟨⟨hc.c0, ?_, ?_⟩, fun j => ho.frozenAt j⟩
    · rw [hc.c1, HLN.out.1]
    · rw [hc.c2, HLN.out.2]))
  have HKS := Lib.hid (fun (V : World) (hV : Below v2.heap.size v2 V) (u0 u1 u2 : Value) => HKEEP.out (((V.setCell ⟨bM, k * 3, none⟩ u0).setCell ⟨bM, k * 3 + 1, none⟩ u1).setCell ⟨bM, k * 3 + 2, none⟩ u2) (((hV.setCell (p := ⟨bM, k * 3, none⟩) HBM.out u0).setCell (p := ⟨bM, k * 3 + 1, none⟩) HBM.out u1).setCell (p := ⟨bM, k * 3 + 2, none⟩) HBM.out u2))
  have HB5A := Lib.hid (show Below w5.heap.size w5 (w5.alloc (.cells #[.int .i64 a.t, .int .i64 a.v] 24)).drew from (bel_alloc w5 _).drew)
  have HBLK := Lib.hid (show Blk (w5.alloc (.cells #[.int .i64 a.t, .int .i64 a.v] 24)).drew w5.heap.size 24 #[.int .i64 a.t, .int .i64 a.v] from Blk.new w5 _ _)
  go_cut [] (fun wx => Hid (∃ x' : Vx, VxAt wx wx.heap.size (some ⟨bM, 0, none⟩) (l.set k x') ∧ x'.v = upV ((vws l).getD k vw0) a born ∧ (x'.xs.length ≤ 40 ∧ x'.bs.length ≤ 100) ∧ Below v2.heap.size v2 wx))
  case first =>
    go_region_held3 (fun w' => w'.cell? ⟨w.heap.size, 0, none⟩ = some (.int .i64 a.t) ∧ w'.cell? ⟨w.heap.size, 1, none⟩ = some (.int .i64 a.v) ∧ w'.cell? ⟨b, off + k * 3, none⟩ = some (.bool xop) ∧ w'.cell? ⟨b, off + k * 3 + 1, none⟩ = some (.slice xA xn xc) ∧ w'.cell? ⟨b, off + k * 3 + 2, none⟩ = some (.slice xA' xm xc'))
      (first
        | (with_reducible exact s0)
        | (with_reducible exact sA)
        | (with_reducible exact s6)
        | (with_reducible exact s6a _)
        | (with_reducible exact s6b _ _)
        | (with_reducible exact s6c _ _ _ _)
        | (with_reducible exact s6d _ _ _ _ _)
        | fail)
      (first
        | (go_at_call 17; (with_reducible (refine HR0.out.mono ?_)); rintro e w6 ⟨rfl, b6⟩; have L6 := L0.trans (b6.mono L0.size); have M6 : Below w5.heap.size w5 w6 := (Below.refl _ _).drew.trans b6; have s6 := HKEEP.out w6 L6; have s6a := fun o => HKEEP.out (w6.alloc o) (L6.alloc L6.size o); have s6b := fun o o' => HKEEP.out ((w6.alloc o).alloc o') ((L6.alloc L6.size o).alloc (L6.alloc L6.size o).size o'); have s6c := fun o => HKS.out (w6.alloc o) (L6.alloc L6.size o); have s6d := fun o o' => HKS.out ((w6.alloc o).alloc o') ((L6.alloc L6.size o).alloc (L6.alloc L6.size o).size o'); have c6a := fun o => (HPUT.out (w6.alloc o) (M6.alloc M6.size o)).1.1; have c6b := fun o => (HPUT.out (w6.alloc o) (M6.alloc M6.size o)).1.2.1; have c6c := fun o => (HPUT.out (w6.alloc o) (M6.alloc M6.size o)).1.2.2; have f6 := fun o => (HPUT.out (w6.alloc o) (M6.alloc M6.size o)).2; have d6a := fun o o' => (HPUT.out ((w6.alloc o).alloc o') ((M6.alloc M6.size o).alloc (M6.alloc M6.size o).size o')).1.1; have d6b := fun o o' => (HPUT.out ((w6.alloc o).alloc o') ((M6.alloc M6.size o).alloc (M6.alloc M6.size o).size o')).1.2.1; have d6c := fun o o' => (HPUT.out ((w6.alloc o).alloc o') ((M6.alloc M6.size o).alloc (M6.alloc M6.size o).size o')).1.2.2; have g6 := fun o o' => (HPUT.out ((w6.alloc o).alloc o') ((M6.alloc M6.size o).alloc (M6.alloc M6.size o).size o')).2)
        | (go_at_call 17; (with_reducible (refine HRA.out.mono ?_)); rintro e w6 ⟨rfl, b6⟩; have L6 := LA.trans (b6.mono LA.size); have M6 : Below w5.heap.size w5 w6 := HB5A.out.trans (b6.mono HB5A.out.size); have s6 := HKEEP.out w6 L6; have s6a := fun o => HKEEP.out (w6.alloc o) (L6.alloc L6.size o); have s6b := fun o o' => HKEEP.out ((w6.alloc o).alloc o') ((L6.alloc L6.size o).alloc (L6.alloc L6.size o).size o'); have s6c := fun o => HKS.out (w6.alloc o) (L6.alloc L6.size o); have s6d := fun o o' => HKS.out ((w6.alloc o).alloc o') ((L6.alloc L6.size o).alloc (L6.alloc L6.size o).size o'); have c6a := fun o => (HPUT.out (w6.alloc o) (M6.alloc M6.size o)).1.1; have c6b := fun o => (HPUT.out (w6.alloc o) (M6.alloc M6.size o)).1.2.1; have c6c := fun o => (HPUT.out (w6.alloc o) (M6.alloc M6.size o)).1.2.2; have f6 := fun o => (HPUT.out (w6.alloc o) (M6.alloc M6.size o)).2; have d6a := fun o o' => (HPUT.out ((w6.alloc o).alloc o') ((M6.alloc M6.size o).alloc (M6.alloc M6.size o).size o')).1.1; have d6b := fun o o' => (HPUT.out ((w6.alloc o).alloc o') ((M6.alloc M6.size o).alloc (M6.alloc M6.size o).size o')).1.2.1; have d6c := fun o o' => (HPUT.out ((w6.alloc o).alloc o') ((M6.alloc M6.size o).alloc (M6.alloc M6.size o).size o')).1.2.2; have g6 := fun o o' => (HPUT.out ((w6.alloc o).alloc o') ((M6.alloc M6.size o).alloc (M6.alloc M6.size o).size o')).2))
    all_goals
      have HE1 := Lib.hid (fun (hb : Blk w6 w5.heap.size 24 #[.int .i64 a.t, .int .i64 a.v]) => HFIN.out (w6.alloc (.cells #[.int .i64 mx] 3)) w5.heap.size w6.heap.size (hb.alloc _) (Blk.new w6 _ _) (M6.alloc M6.size _))
      have HE2 := Lib.hid (HFIN.out ((w6.alloc (.cells #[.int .i64 a.t, .int .i64 a.v] 24)).alloc (.cells #[.int .i64 mx] 3)) w6.heap.size (w6.heap.size + 1) ((Blk.new w6 _ _).alloc _) (blk_two w6 _ _ _) ((M6.alloc M6.size _).alloc (M6.alloc M6.size _).size _))
      have HE3 := Lib.hid (HFIN.out ((w6.alloc (.cells #[.int .i64 mx] 3)).alloc (.cells #[.int .i64 a.t, .int .i64 a.v] 24)) (w6.heap.size + 1) w6.heap.size (blk_two w6 _ _ _) ((Blk.new w6 _ _).alloc _) ((M6.alloc M6.size _).alloc (M6.alloc M6.size _).size _))
      have HB6 := Lib.hid b6
      clear s6 s6a s6b s6c s6d c6a c6b c6c f6 d6a d6b d6c g6 L6 M6 b6 s0 sA
      go_wp2_with fail
      go_meet
      first
        | (with_reducible exact HE2.out)
        | (with_reducible exact HE3.out)
        | (have h := HE1.out (HBLK.out.below HB6.out HBLK.out.lt); with_reducible exact h)
  case rest =>
    obtain ⟨x', hv', ex', hx40, hbc⟩ := hcut.out
    have HBC := Lib.hid (HB2.out.1.trans (hbc.mono HB2.out.1.size))
    have HNX := Lib.hid (show (l.set k x').length = n by rw [List.length_set]; exact HN.out)
    have HVX := Lib.hid hv'
    have hxs : ∀ i, i < n → ((l.set k x').getD i vx0).xs.length ≤ 40 ∧ ((l.set k x').getD i vx0).bs.length ≤ 100 := fun i hi => by
      by_cases e : i = k
      · subst e
        rw [List.getD_eq_getElem?_getD, List.getElem?_set_self (by omega)]
        exact hx40
      · rw [List.getD_eq_getElem?_getD, List.getElem?_set_ne (fun c => e c.symm), ← List.getD_eq_getElem?_getD]
        exact HM.out.2.2 i hi
    have HWN := Lib.hid (fun (V : World) (hV : Below wc.heap.size wc V) => (by
      have h := HWI (some ⟨bM, 0, none⟩) t1 (l.set k x') a own V ((hv'.below hV).more hV.size) (by rw [HNX.out]; exact HM.out.2.1) (fun i hi => hxs i (by rw [HNX.out] at hi; exact hi))
      rw [HNX.out] at h
      exact h : Calls Try.prog 10 #[.slice (some ⟨bM, 0, none⟩) n t1, .agg #[.int .i64 a.t, .int .i64 a.v], .int .i64 own] V fun e w' => ∃ A' c', e = .returned (.slice A' n c') ∧ IntAt w' w'.heap.size A' (wantsL (vws (l.set k x')) a own) ∧ n ≤ c' ∧ Below V.heap.size V w'))
    have HUPW := Lib.hid (show ∀ i, i < n → (wantsL (vws l) a own).getD i 0 ≤ (wantsL (vws (l.set k x')) a own).getD i 0 ∧ (i = k → (wantsL (vws (l.set k x')) a own).getD i 0 = (wantsL (vws l) a own).getD i 0) from fun i hi => by
      have hl1 : i < (vws l).length := by rw [vws_length, HN.out]; exact hi
      rw [wantsL_at _ _ _ hl1, wantsL_at _ _ _ (by rw [vws_length, HNX.out]; exact hi), vws_set, ex']
      exact up_plain (vws l) a own (by rw [vws_length]; exact hkl) born i)
    have HLW := Lib.hid (show (wantsL (vws l) a own).length = n ∧ (wantsL (vws (l.set k x')) a own).length = n from ⟨by rw [wantsL_length, vws_length]; exact HN.out, by rw [wantsL_length, vws_length]; exact HNX.out⟩)
    have hbox : Blk wc w.heap.size 24 #[.int .i64 a.t, .int .i64 a.v] := HB2.out.2.below hbc HB2.out.2.lt
    have s0 : wc.drew.cell? ⟨w.heap.size, 0, none⟩ = some (.int .i64 a.t) ∧ wc.drew.cell? ⟨w.heap.size, 1, none⟩ = some (.int .i64 a.v) := ⟨hbox.cell 0, hbox.cell 1⟩
    have HBOX := Lib.hid hbox
    have HDR := Lib.hid (show Below wc.heap.size wc wc.drew from (Below.refl _ _).drew)
    have HW1 := Lib.hid (HWC.out wc.drew (HBC.out.drew) HM.out.2.1 HM.out.2.2)
    have a0 := hbox.cell 0
    have a1 := hbox.cell 1
    clear hv' ex' hx40 hbc hxs hbox hcut
    go_wp2_with fail
    go_region_held3 (fun w' => w'.cell? ⟨w.heap.size, 0, none⟩ = some (.int .i64 a.t) ∧ w'.cell? ⟨w.heap.size, 1, none⟩ = some (.int .i64 a.v))
      (first
        | (with_reducible exact s0)
        | (with_reducible exact s7)
        | (with_reducible exact s8)
        | fail)
      (first
        | (go_at_call 10; (with_reducible (refine HW1.out.mono ?_)); rintro e w7 ⟨A7, c7, rfl, h7, hc7, b7⟩; have m7 : Below wc.heap.size wc w7 := HDR.out.trans (b7.mono HDR.out.size); have s7 : w7.cell? ⟨w.heap.size, 0, none⟩ = some (.int .i64 a.t) ∧ w7.cell? ⟨w.heap.size, 1, none⟩ = some (.int .i64 a.v) := ⟨(HBOX.out.below m7 HBOX.out.lt).cell 0, (HBOX.out.below m7 HBOX.out.lt).cell 1⟩)
        | (go_at_call 10; (with_reducible (refine (HWN.out w7 m7).mono ?_)); rintro e w8 ⟨A8, c8, rfl, h8, hc8, b8⟩; have m8 : Below wc.heap.size wc w8 := m7.trans (b8.mono m7.size); have s8 : w8.cell? ⟨w.heap.size, 0, none⟩ = some (.int .i64 a.t) ∧ w8.cell? ⟨w.heap.size, 1, none⟩ = some (.int .i64 a.v) := ⟨(HBOX.out.below m8 HBOX.out.lt).cell 0, (HBOX.out.below m8 HBOX.out.lt).cell 1⟩))
    have H7 := Lib.hid ((h7.below b8).more b8.size)
    have H8 := Lib.hid h8
    have HB8 := Lib.hid (HBC.out.trans (m8.mono HBC.out.size))
    clear h7 h8 s0 s7 s8 m7 m8 b7 b8 hc7 hc8 a0 a1
    go_wp2_with fail
    go_loopw [76] (fun iv wr => ∃ j : Nat, j ≤ n ∧ iv = .int .i64 j ∧ Hid (Below w8.heap.size w8 wr)) (fun iv _ => n - (intOf iv).toNat)
    case atStart => exact ⟨0, Nat.zero_le _, rfl, Lib.hid (Below.refl _ _)⟩
    case round =>
      obtain ⟨j, hj, rfl, HS⟩ := hrel
      by_cases hlt : j < n
      · have j1 : (j : Int) < n := by omega
        have j1n : ¬ n ≤ j := by omega
        have j0 : (0 : Int) ≤ j := by omega
        have HLT := Lib.hid hlt
        have HJ := Lib.hid (show wrap64 ((j : Int) + 1) = (j : Int) + 1 from IntWalk.wrap64_in _ (by have := HM.out.2.1; omega))
        obtain ⟨b7, o7, e7, l7, c70⟩ := H7.out j (by rw [HLW.out.1]; exact hlt)
        obtain ⟨b8, o8, e8, l8, c80⟩ := H8.out j (by rw [HLW.out.2]; exact hlt)
        have q7 := (HS.out.cell (p := ⟨b7, o7 + j, none⟩) l7).trans c70
        have q8 := (HS.out.cell (p := ⟨b8, o8 + j, none⟩) l8).trans c80
        have hup := HUPW.out j hlt
        obtain ⟨z7, hz7⟩ : ∃ z, (wantsL (vws l) a own).getD j 0 = z := ⟨_, rfl⟩
        obtain ⟨z8, hz8⟩ : ∃ z, (wantsL (vws (l.set k x')) a own).getD j 0 = z := ⟨_, rfl⟩
        rw [hz7] at q7 hup
        rw [hz8] at q8 hup
        subst e7 e8
        obtain ⟨hle, heq⟩ := hup
        by_cases ejk : j = k
        · obtain rfl : z8 = z7 := heq ejk
          have ejk1 : (j : Int) = k := by omega
          have ejk2 : ((j : Int) == (k : Int)) = true := beq_iff_eq.2 ejk1
          have zz1 : ¬ z8 < z8 := by omega
          have zz2 : (z8 != z8) = false := by simp
          have zz3 : decide (z8 < z8) = false := decide_eq_false zz1
          clear hj hlt l7 c70 l8 c80 hz7 hz8 heq hle ejk ejk1 d0 d0b d1 d1b d1' hkn hkl hmx h20
          go_wp2_with fail
          go_quiet (fail)
          go_wp2_with fail
          go_roundw
          case rel =>
            rw [HJ.out]
            exact ⟨j + 1, HLT.out, by rw [Int.natCast_add]; rfl, Lib.hid (bel_drewN HS.out nq)⟩
          case measure =>
            rw [HJ.out]
            show n - ((j : Int) + 1).toNat < n - ((j : Int)).toNat
            have := HLT.out
            omega
        · have ejk2 : ((j : Int) == (k : Int)) = false := beq_eq_false_iff_ne.2 (by omega)
          have zz1 : ¬ z8 < z7 := by omega
          have zz3 : decide (z8 < z7) = false := decide_eq_false zz1
          clear hj hlt l7 c70 l8 c80 hz7 hz8 heq ejk d0 d0b d1 d1b d1' hkn hkl hmx h20
          go_wp2_with fail
          go_quiet (fail)
          go_wp2_with fail
          go_roundw
          case rel =>
            rw [HJ.out]
            exact ⟨j + 1, HLT.out, by rw [Int.natCast_add]; rfl, Lib.hid (bel_drewN HS.out nq)⟩
          case measure =>
            rw [HJ.out]
            show n - ((j : Int) + 1).toNat < n - ((j : Int)).toNat
            have := HLT.out
            omega
      · obtain rfl : n = j := by omega
        clear hj hlt
        go_wp2_with fail
        go_ret
        exact ⟨rfl, HB8.out.trans (HS.out.mono HB8.out.size)⟩
end Go.Proofs.Ytaieopejabpegaa
