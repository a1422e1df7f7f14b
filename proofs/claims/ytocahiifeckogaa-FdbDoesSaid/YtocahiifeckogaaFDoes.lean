/- The statement FdbDoes: each answer, and all places, in order, are the document's. Its condition: the program's contracts. -/
import Derived.Test.YtocahiifeckogaaFbApart
import Derived.Test.YtocahiifeckogaaFbDoesP
import Derived.Deep.RegionHeld3
import Derived.Deep.RegionHeld
import Derived.Deep.RegionLaw
namespace Go.Proofs.Ytocahiifeckogaa
open Go.RowKit
set_option maxRecDepth 100000

section
variable {Pt : World → Nat → (Nat → Prop) → Nat → Dt → Prop}
set_option maxHeartbeats 8000000 in
theorem walkDoes (H : FdbIs Pt) (A : Option Addr) (c : Nat) (l : List Kc) (w : World) (hA : KcAt w w.heap.size A l) (hl : l.length ≤ maxLen) :
    Calls Try.prog 3 #[.slice A l.length c] w fun e w' => e = .returned (.bool true) ∧ Below w.heap.size w w' := by
  obtain ⟨n, hn⟩ : ∃ n, l.length = n := ⟨_, rfl⟩
  have HG := Lib.hid (fun (V : World) (hV : Below w.heap.size w V) => great_any A c l V (fun k hk => by
    obtain ⟨b, off, e, hl, hc⟩ := hA.below hV k hk
    exact ⟨b, off, e, Nat.lt_of_lt_of_le hl hV.size, hc⟩) hl)
  have HA := Lib.hid hA
  have HN := Lib.hid hn
  rw [hn] at HG ⊢
  clear hA hl hn
  go_enter Try.func3, Try.ntmps3
  go_wp2_with fail
  refine (falive_any H _).mono ?_
  rintro e w1 ⟨rfl, b1⟩
  have HB1 := Lib.hid b1
  have HG1 := Lib.hid (HG.out w1 b1)
  clear b1
  go_wp2_with fail
  refine HG1.out.mono ?_
  rintro e w2 ⟨(rfl | ⟨rfl, h120, hok⟩), b2⟩
  · have HE := Lib.hid (HB1.out.trans (b2.mono HB1.out.size))
    clear b2
    go_wp2_with fail
    go_ret
    exact ⟨rfl, HE.out⟩
  have HB2 := Lib.hid (HB1.out.trans (b2.mono HB1.out.size))
  have HOK := Lib.hid (And.intro h120 hok)
  clear b2 h120 hok
  have HNE := Lib.hid (H.new w2 w.heap.size HB2.out.size)
  go_wp2_with fail
  refine HNE.out.mono ?_
  rintro e w3 ⟨g, rfl, b3, p3⟩
  have HB3 := Lib.hid (HB2.out.trans (b3.mono HB2.out.size))
  have HP3 := Lib.hid (duo_new H p3)
  clear b3 p3
  go_wp2_with fail
  go_loopw [23] (fun iv wr => ∃ j : Nat, j ≤ n ∧ iv = .int .i64 j ∧ Hid (DoR Pt w g w3.heap.size wr)) (fun iv _ => n - (intOf iv).toNat)
  case atStart => exact ⟨0, Nat.zero_le _, rfl, Lib.hid ⟨_, _, _, _, _, _, HP3.out.1, HP3.out.2.1, HP3.out.2.2, rel_nil, few_nil 0, HB3.out.trans ((bel_alloc w3 _).mono HB3.out.size)⟩⟩
  case round =>
    obtain ⟨j, hj, rfl, HS⟩ := hrel
    by_cases hlt : j < n
    · have j1 : (j : Int) < n := by omega
      have j0 : (0 : Int) ≤ j := by omega
      have HLT := Lib.hid hlt
      have HJ := Lib.hid (show wrap64 ((j : Int) + 1) = (j : Int) + 1 from IntWalk.wrap64_in _ (by have := HOK.out.1; have := HN.out; omega))
      obtain ⟨Ft, Fm, s, d, Am, cm', hp, hd, hdis, hrl, hf, hb⟩ := HS.out
      obtain ⟨b, off, eA, hbl, hc⟩ := HA.out j (by rw [HN.out]; exact hlt)
      have hc := hc.below hb hbl
      have hok := HOK.out.2 j hlt
      obtain ⟨x, hx⟩ : ∃ x, l.getD j kc0 = x := ⟨_, rfl⟩
      rw [hx] at hc hok
      obtain ⟨q0, q1, q2, q3, q4⟩ := hc
      have bx := bel_alloc wr (.cells x.cells.toArray 32)
      have bxd : Below wr.heap.size wr (wr.alloc (.cells x.cells.toArray 32)).drew := bx.drew
      have kx := Blk.new wr 32 x.cells.toArray
      have hp1 := H.keep hp (below_touch bxd noF) (fun _ h => h.elim)
      have hd1 := hd.below bxd
      have hdo := does_any H hp1 hd1 hdis hrl.srt hf (by have := hrl.perm.length_eq; have := hf.len; omega) x hok
      rw [ans_rel hrl x] at hdo
      have HDO := Lib.hid hdo
      have HLO := Lib.hid (And.intro (H.lo hp).2 hd.lo)
      have HFL := Lib.hid (And.intro (hb.trans (bxd.mono hb.size)) (And.intro (hrl.does x) (hf.does hok)))
      have HKX := Lib.hid kx
      obtain ⟨ck, cv, cm, cp, cn⟩ := x
      subst eA
      obtain ⟨f, hff⟩ : ∃ f, (doesD d ⟨ck, cv, cm, cp, cn⟩).f = f := ⟨_, rfl⟩
      have HF := Lib.hid hff
      obtain ⟨s', hs'⟩ : ∃ s', doesS s ⟨ck, cv, cm, cp, cn⟩ = s' := ⟨_, rfl⟩
      obtain ⟨d', hd'⟩ : ∃ d', doesD d ⟨ck, cv, cm, cp, cn⟩ = d' := ⟨_, rfl⟩
      rw [hs', hd'] at HDO HFL
      rw [hd'] at HF
      have s0 : (wr.alloc (.cells #[.int .i64 ck, .int .i64 cv, .int .i64 cm, .int .i64 cp, .int .i64 cn] 32)).drew.cell? ⟨wr.heap.size, 0, none⟩ = some (.int .i64 ck) := kx.cell 0
      have s1 : (wr.alloc (.cells #[.int .i64 ck, .int .i64 cv, .int .i64 cm, .int .i64 cp, .int .i64 cn] 32)).drew.cell? ⟨wr.heap.size, 1, none⟩ = some (.int .i64 cv) := kx.cell 1
      have s2 : (wr.alloc (.cells #[.int .i64 ck, .int .i64 cv, .int .i64 cm, .int .i64 cp, .int .i64 cn] 32)).drew.cell? ⟨wr.heap.size, 2, none⟩ = some (.int .i64 cm) := kx.cell 2
      have s3 : (wr.alloc (.cells #[.int .i64 ck, .int .i64 cv, .int .i64 cm, .int .i64 cp, .int .i64 cn] 32)).drew.cell? ⟨wr.heap.size, 3, none⟩ = some (.int .i64 cp) := kx.cell 3
      have s4 : (wr.alloc (.cells #[.int .i64 ck, .int .i64 cv, .int .i64 cm, .int .i64 cp, .int .i64 cn] 32)).drew.cell? ⟨wr.heap.size, 4, none⟩ = some (.int .i64 cn) := kx.cell 4
      clear hj hlt hbl hx hok bx bxd kx hp hd hp1 hd1 hdis hdo hrl hf hb hff hs' hd'
      go_wp2_with fail
      go_region_law ((first
        | (go_simp; go_at_call 9; (refine HDO.out.mono ?_); rintro e w5 ⟨rfl, hbo⟩; obtain ⟨w5e, hfa, hyy⟩ := hb_after H HFL.out.2.1.f HF.out hbo; have HW5 := Lib.hid w5e; have HFA := Lib.hid hfa; have y1 := hyy; have HBO := Lib.hid hbo)
        | (go_simp; go_at_call 10; (with_reducible (refine HFA.out.mono ?_)); rintro e w6 ⟨rfl, b6⟩; have y2 := (b6.cell (p := ⟨w3.heap.size, 1, none⟩) HW5.out).trans y1; have HB6 := Lib.hid b6)))
      all_goals
        obtain ⟨Ft', Fm', A', c', p5, d5, dis5, t5, i5, j5⟩ := HBO.out
        have hk5 := (show Blk _ wr.heap.size 32 #[.int .i64 ck, .int .i64 cv, .int .i64 cm, .int .i64 cp, .int .i64 cn] from HKX.out.drew).touch t5 (by
          rintro (q | q)
          · have := (HLO.out.1 _ q).2; omega
          · have := (HLO.out.2 _ q).2; omega)
        have hk6 := hk5.below HB6.out hk5.lt
        have p6 := H.keep p5 (below_touch HB6.out noF) (fun _ h => h.elim)
        have d6 := d5.below HB6.out
        have hb6 := (HFL.out.1.trans (t5.below HFL.out.1.size (by
          rintro k (q | q)
          · exact (HLO.out.1 k q).1
          · exact (HLO.out.2 k q).1)))
        have BX := Lib.hid (hb6.trans (HB6.out.mono hb6.size))
        have HD6 := Lib.hid (And.intro d6 (And.intro p6 dis5))
        have HK6 := Lib.hid hk6
        have hdl : d'.l.length ≤ 24 := by have := HFL.out.2.1.perm.length_eq; have := HFL.out.2.2.len; omega
        have HAT := Lib.hid (dat_any d6 (by omega) cv cm)
        have HDL := Lib.hid hdl
        obtain ⟨z0, z1, z2⟩ := (show w6.cell? ⟨wr.heap.size, 0, none⟩ = some (.int .i64 ck) ∧ w6.cell? ⟨wr.heap.size, 1, none⟩ = some (.int .i64 cv) ∧ w6.cell? ⟨wr.heap.size, 2, none⟩ = some (.int .i64 cm) from ⟨hk6.cell 0, hk6.cell 1, hk6.cell 2⟩)
        clear hk5 p5 d5 dis5 t5 i5 j5 hk6 p6 d6 hb6 hdl y1 y2 s0 s1 s2 s3 s4 hbo b6 w5e hfa hyy HBO
        go_wp2_with fail
        refine HAT.out.mono ?_
        rintro e w7 ⟨rfl, b7⟩
        have hk7 := HK6.out.below b7 HK6.out.lt
        have p7 := H.keep HD6.out.2.1 (below_touch b7 noF) (fun _ h => h.elim)
        have d7 := HD6.out.1.below b7
        have HB7 := Lib.hid (BX.out.trans (b7.mono BX.out.size))
        obtain ⟨x0, x1, x2⟩ := (show w7.cell? ⟨wr.heap.size, 0, none⟩ = some (.int .i64 ck) ∧ w7.cell? ⟨wr.heap.size, 1, none⟩ = some (.int .i64 cv) ∧ w7.cell? ⟨wr.heap.size, 2, none⟩ = some (.int .i64 cm) from ⟨hk7.cell 0, hk7.cell 1, hk7.cell 2⟩)
        have hfi := H.find cv cm p7 HFL.out.2.1.srt HFL.out.2.2
        rw [HFL.out.2.1.find cv cm] at hfi
        have HD7 := Lib.hid (And.intro p7 (And.intro d7 HD6.out.2.2))
        rcases hix : ixP cv cm d'.l with _ | i
        · have e1 : ixI cv cm d'.l = -1 := by unfold ixI; rw [hix]
          have e2 : findS d'.l cv cm = -1 := by unfold findS; rw [hix]
          rw [e2] at hfi
          rw [e1]
          have HFI := Lib.hid hfi
          clear hk7 p7 d7 b7 hfi hix e1 e2 z0 z1 z2
          go_wp2_with fail
          refine HFI.out.mono ?_
          rintro e w8 ⟨rfl, b8⟩
          have HE := Lib.hid (show DoR Pt w g w3.heap.size w8 from ⟨_, _, s', d', _, _, H.keep HD7.out.1 (below_touch b8 noF) (fun _ h => h.elim), HD7.out.2.1.below b8, HD7.out.2.2, HFL.out.2.1, HFL.out.2.2, HB7.out.trans (b8.mono HB7.out.size)⟩)
          clear b8 x0 x1 x2
          go_wp2_with fail
          go_roundw
          case rel =>
            rw [HJ.out]
            exact ⟨j + 1, HLT.out, by rw [Int.natCast_add]; rfl, HE⟩
          case measure =>
            rw [HJ.out]
            show n - ((j : Int) + 1).toNat < n - ((j : Int)).toNat
            have := HLT.out
            omega
        · have e1 : ixI cv cm d'.l = (i : Int) := by unfold ixI; rw [hix]
          have hil : i < d'.l.length := (ixP_some hix).1
          have e2 : findS d'.l cv cm = (d'.l.getD i pl0).p := by unfold findS; rw [hix]
          rw [e2] at hfi
          rw [e1]
          have hblk := d7.blk
          obtain ⟨bb, oo, eA, hbb, hcc⟩ := d7.row.at_ i hil
          obtain ⟨y, hy⟩ : ∃ y, d'.l.getD i pl0 = y := ⟨_, rfl⟩
          rw [hy] at hfi hcc
          obtain ⟨m', hm'⟩ : ∃ m', d'.l.length = m' := ⟨_, rfl⟩
          rw [hm'] at hil hblk
          subst eA
          obtain ⟨r0, r1, r2, r3, r4⟩ := hcc
          obtain ⟨yv, ym, yp, ys, yst⟩ := y
          have r2 : w7.cell? ⟨bb, oo + i * 5 + 2, none⟩ = some (.int .i64 yp) := r2
          have k0 : w7.cell? ⟨w3.heap.size, 0, none⟩ = some (.slice (some ⟨bb, oo, none⟩) m' c') := hblk.cell 0
          have i0 : (0 : Int) ≤ i := by omega
          have i1 : (i : Int) < m' := by omega
          have HFI := Lib.hid hfi
          clear hk7 p7 d7 b7 hfi hix e1 e2 z0 z1 z2 hblk r0 r1 r3 r4 hy hm' hbb hil
          go_wp2_with fail
          refine HFI.out.mono ?_
          rintro e w8 ⟨rfl, b8⟩
          have HE := Lib.hid (show DoR Pt w g w3.heap.size w8 from ⟨_, _, s', d', _, _, H.keep HD7.out.1 (below_touch b8 noF) (fun _ h => h.elim), HD7.out.2.1.below b8, HD7.out.2.2, HFL.out.2.1, HFL.out.2.2, HB7.out.trans (b8.mono HB7.out.size)⟩)
          clear b8 x0 x1 x2 r2 k0 i0 i1
          go_wp2_with fail
          go_roundw
          case rel =>
            rw [HJ.out]
            exact ⟨j + 1, HLT.out, by rw [Int.natCast_add]; rfl, HE⟩
          case measure =>
            rw [HJ.out]
            show n - ((j : Int) + 1).toNat < n - ((j : Int)).toNat
            have := HLT.out
            omega
    · obtain rfl : n = j := by omega
      clear hj hlt
      obtain ⟨Ft, Fm, s, d, Am, cm', hp, hd, hdis, hrl, hf, hb⟩ := HS.out
      obtain ⟨m, hm⟩ : ∃ m, s.l.length = m := ⟨_, rfl⟩
      have hml : d.l.length = m := by rw [← hrl.perm.length_eq]; exact hm
      have ha := H.all hp hrl.srt hf
      rw [hm] at ha
      have HALL := Lib.hid ha
      have HR := Lib.hid (And.intro hd (And.intro hrl (And.intro hm hml)))
      have HM := Lib.hid (show m ≤ 24 from by have := hf.len; omega)
      have HBR := Lib.hid hb
      clear hp hd hdis hrl hf hb hm hml ha
      go_wp2_with fail
      refine HALL.out.mono ?_
      rintro e w4 ⟨A4, c4, rfl, h4, b4⟩
      have HP4 := Lib.hid h4
      have HB4 := Lib.hid (HBR.out.trans (b4.mono HBR.out.size))
      have HD4 := Lib.hid (HR.out.1.below b4)
      clear h4 b4
      go_wp2_with fail
      go_loopw [70] (fun iv wq => ∃ i : Nat, i ≤ m ∧ iv = .int .i64 i ∧ Hid (Below w4.heap.size w4 wq)) (fun iv _ => m - (intOf iv).toNat)
      case atStart => exact ⟨0, Nat.zero_le _, rfl, Lib.hid (Below.refl _ _)⟩
      case round =>
        obtain ⟨i, hi, rfl, HQ⟩ := hrel
        by_cases hit : i < m
        · have i1 : (i : Int) < m := by omega
          have i0 : (0 : Int) ≤ i := by omega
          have HLI := Lib.hid hit
          have HI := Lib.hid (show wrap64 ((i : Int) + 1) = (i : Int) + 1 from IntWalk.wrap64_in _ (by have := HM.out; omega))
          obtain ⟨b, off, eA, hbl, hc⟩ := HP4.out i (by rw [HR.out.2.2.1]; exact hit)
          have hc := hc.below HQ.out hbl
          obtain ⟨k, hk, hat, hkd⟩ := rel_at HR.out.2.1 (i := i) (by rw [HR.out.2.2.1]; exact hit)
          have hprev := fun (ip : Nat) (h : ip + 1 = i) => (HP4.out ip (by rw [HR.out.2.2.1]; omega))
          have hless := fun (ip : Nat) (h : ip + 1 = i) => srt_lt HR.out.2.1.srt (i := ip) (j := i) (by omega) (by rw [HR.out.2.2.1]; exact hit)
          obtain ⟨x, hx⟩ : ∃ x, s.l.getD i pl0 = x := ⟨_, rfl⟩
          rw [hx] at hc hat hkd
          have HLS := Lib.hid (show ∀ ip : Nat, ip + 1 = i → ltK (s.l.getD ip pl0) x from fun ip h => by rw [← hx]; exact hless ip h)
          have HPV := Lib.hid hprev
          obtain ⟨q0, q1, q2, q3, q4⟩ := hc
          have bx := bel_alloc wr (.cells x.cells.toArray 40)
          have kx := Blk.new wr 40 x.cells.toArray
          have hd1 := (show DtAt wr _ _ _ _ _ _ from HD4.out.keep (below_touch HQ.out noF) (fun _ h => h.elim)).keep (below_touch bx noF) (fun _ h => h.elim)
          have ha5 := dat_any hd1 (by rw [HR.out.2.2.2]; have := HM.out; omega) x.v x.m
          rw [hat] at ha5
          have HAT := Lib.hid ha5
          have HD1 := Lib.hid hd1
          have HKX := Lib.hid kx
          have HBX := Lib.hid (HQ.out.trans (bx.mono HQ.out.size))
          have HKD := Lib.hid (And.intro hk hkd)
          have HBL := Lib.hid hbl
          obtain ⟨pv, pm, pp, ps, pst⟩ := x
          subst eA
          have z0 := kx.cell 0
          have z1 := kx.cell 1
          clear hi hit hbl hx bx hd1 ha5 hat hk hkd hprev hless kx
          have z0 : (wr.alloc (.cells #[.int .i64 pv, .int .i64 pm, .int .i64 pp, .int .i64 ps, .bool pst] 40)).cell? ⟨wr.heap.size, 0, none⟩ = some (.int .i64 pv) := z0
          have z1 : (wr.alloc (.cells #[.int .i64 pv, .int .i64 pm, .int .i64 pp, .int .i64 ps, .bool pst] 40)).cell? ⟨wr.heap.size, 1, none⟩ = some (.int .i64 pm) := z1
          go_wp2_with fail
          refine HAT.out.mono ?_
          rintro e w5 ⟨rfl, b5⟩
          have hk5 := HKX.out.below b5 HKX.out.lt
          have hd5 := HD1.out.below b5
          have HB5 := Lib.hid (HBX.out.trans (b5.mono HBX.out.size))
          have hblk := hd5.blk
          rw [HR.out.2.2.2] at hblk
          obtain ⟨bb, oo, eA, hbb, hcc⟩ := hd5.row.at_ k HKD.out.1
          rw [HKD.out.2] at hcc
          subst eA
          have c0 := hblk.cell 0
          have k1 : (k : Int) < m := by have := HKD.out.1; have := HR.out.2.2.2; omega
          have k0 : (0 : Int) ≤ k := by omega
          have k2 : ¬ (k : Int) < 0 := by omega
          have HSD := Lib.hid (show w5.drew.cell? ⟨wr.heap.size, 0, none⟩ = some (.int .i64 pv) ∧ w5.drew.cell? ⟨wr.heap.size, 1, none⟩ = some (.int .i64 pm) ∧ w5.drew.cell? ⟨wr.heap.size, 2, none⟩ = some (.int .i64 pp) ∧ w5.drew.cell? ⟨wr.heap.size, 3, none⟩ = some (.int .i64 ps) ∧ w5.drew.cell? ⟨wr.heap.size, 4, none⟩ = some (.bool pst) ∧ w5.drew.cell? ⟨w3.heap.size, 0, none⟩ = some (.slice (some ⟨bb, oo, none⟩) m cm') ∧ w5.drew.cell? ⟨bb, oo + k * 5, none⟩ = some (.int .i64 pv) ∧ w5.drew.cell? ⟨bb, oo + k * 5 + 1, none⟩ = some (.int .i64 pm) ∧ w5.drew.cell? ⟨bb, oo + k * 5 + 2, none⟩ = some (.int .i64 pp) ∧ w5.drew.cell? ⟨bb, oo + k * 5 + 3, none⟩ = some (.int .i64 ps) ∧ w5.drew.cell? ⟨bb, oo + k * 5 + 4, none⟩ = some (.bool pst) from ⟨hk5.cell 0, hk5.cell 1, hk5.cell 2, hk5.cell 3, hk5.cell 4, c0, hcc.c0, hcc.c1, hcc.c2, hcc.c3, hcc.c4⟩)
          clear b5 hk5 hd5 hblk hbb hcc c0 z0 z1 q0 q1 q2 q3 q4
          go_upto_region 23 with fail
          by_cases hz : i = 0
          · have hz0 : ¬ 0 < i := by omega
            have hz1 : ¬ (0 : Int) < i := by omega
            have hSd := HSD.out
            clear HSD hz
            refine wp_region_heldD (S := fun w' => w'.cell? ⟨wr.heap.size, 0, none⟩ = some (.int .i64 pv) ∧ w'.cell? ⟨wr.heap.size, 1, none⟩ = some (.int .i64 pm) ∧ w'.cell? ⟨wr.heap.size, 2, none⟩ = some (.int .i64 pp) ∧ w'.cell? ⟨wr.heap.size, 3, none⟩ = some (.int .i64 ps) ∧ w'.cell? ⟨wr.heap.size, 4, none⟩ = some (.bool pst) ∧ w'.cell? ⟨w3.heap.size, 0, none⟩ = some (.slice (some ⟨bb, oo, none⟩) m cm') ∧ w'.cell? ⟨bb, oo + k * 5, none⟩ = some (.int .i64 pv) ∧ w'.cell? ⟨bb, oo + k * 5 + 1, none⟩ = some (.int .i64 pm) ∧ w'.cell? ⟨bb, oo + k * 5 + 2, none⟩ = some (.int .i64 pp) ∧ w'.cell? ⟨bb, oo + k * 5 + 3, none⟩ = some (.int .i64 ps) ∧ w'.cell? ⟨bb, oo + k * 5 + 4, none⟩ = some (.bool pst)) (by kernel_rfl) (fun _ _ _ _ _ h => h) hSd (fun hPF hHeld => ?_)
            refine wpAnyH_takeD (i := 0) 81 (v := ?_) rfl rfl (by kernel_rfl) (by kernel_rfl) (by kernel_rfl) hPF (Or.inl ⟨by kernel_rfl, ?_⟩) hHeld ?_
            rotate_left
            · intro w hSw; obtain ⟨s0, s1, s2, s3, s4, sg, y0, y1, y2, y3, y4⟩ := hSw; go_simp; try with_reducible rfl
            try simp only [Act.put, List.setIfInBounds_toArray, List.set_cons_zero, List.set_cons_succ]
            refine wpAnyH_takeD (i := 1) 82 (v := ?_) rfl rfl (by kernel_rfl) (by kernel_rfl) (by kernel_rfl) hPF (Or.inl ⟨by kernel_rfl, ?_⟩) hHeld ?_
            rotate_left
            · intro w hSw; obtain ⟨s0, s1, s2, s3, s4, sg, y0, y1, y2, y3, y4⟩ := hSw; go_simp; try with_reducible rfl
            try simp only [Act.put, List.setIfInBounds_toArray, List.set_cons_zero, List.set_cons_succ]
            refine wpAnyH_takeD (i := 2) 83 (v := ?_) rfl rfl (by kernel_rfl) (by kernel_rfl) (by kernel_rfl) hPF (Or.inl ⟨by kernel_rfl, ?_⟩) hHeld ?_
            rotate_left
            · intro w hSw; obtain ⟨s0, s1, s2, s3, s4, sg, y0, y1, y2, y3, y4⟩ := hSw; go_simp; try with_reducible rfl
            try simp only [Act.put, List.setIfInBounds_toArray, List.set_cons_zero, List.set_cons_succ]
            refine wpAnyH_takeD (i := 3) 84 (v := ?_) rfl rfl (by kernel_rfl) (by kernel_rfl) (by kernel_rfl) hPF (Or.inl ⟨by kernel_rfl, ?_⟩) hHeld ?_
            rotate_left
            · intro w hSw; obtain ⟨s0, s1, s2, s3, s4, sg, y0, y1, y2, y3, y4⟩ := hSw; go_simp; try with_reducible rfl
            try simp only [Act.put, List.setIfInBounds_toArray, List.set_cons_zero, List.set_cons_succ]
            refine wpAnyH_takeD (i := 4) 85 (v := ?_) rfl rfl (by kernel_rfl) (by kernel_rfl) (by kernel_rfl) hPF (Or.inl ⟨by kernel_rfl, ?_⟩) hHeld ?_
            rotate_left
            · intro w hSw; obtain ⟨s0, s1, s2, s3, s4, sg, y0, y1, y2, y3, y4⟩ := hSw; go_simp; try with_reducible rfl
            try simp only [Act.put, List.setIfInBounds_toArray, List.set_cons_zero, List.set_cons_succ]
            refine wpAnyH_takeD (i := 5) 86 (v := ?_) rfl rfl (by kernel_rfl) (by kernel_rfl) (by kernel_rfl) hPF (Or.inl ⟨by kernel_rfl, ?_⟩) hHeld ?_
            rotate_left
            · intro w hSw; obtain ⟨s0, s1, s2, s3, s4, sg, y0, y1, y2, y3, y4⟩ := hSw; go_simp; try with_reducible rfl
            try simp only [Act.put, List.setIfInBounds_toArray, List.set_cons_zero, List.set_cons_succ]
            refine wpAnyH_takeD (i := 6) 87 (v := ?_) rfl rfl (by kernel_rfl) (by kernel_rfl) (by kernel_rfl) hPF (Or.inl ⟨by kernel_rfl, ?_⟩) hHeld ?_
            rotate_left
            · intro w hSw; obtain ⟨s0, s1, s2, s3, s4, sg, y0, y1, y2, y3, y4⟩ := hSw; go_simp; try with_reducible rfl
            try simp only [Act.put, List.setIfInBounds_toArray, List.set_cons_zero, List.set_cons_succ]
            refine wpAnyH_takeD (i := 7) 88 (v := ?_) rfl rfl (by kernel_rfl) (by kernel_rfl) (by kernel_rfl) hPF (Or.inl ⟨by kernel_rfl, ?_⟩) hHeld ?_
            rotate_left
            · intro w hSw; obtain ⟨s0, s1, s2, s3, s4, sg, y0, y1, y2, y3, y4⟩ := hSw; go_simp; try with_reducible rfl
            try simp only [Act.put, List.setIfInBounds_toArray, List.set_cons_zero, List.set_cons_succ]
            refine wpAnyH_takeD (i := 8) 89 (v := ?_) rfl rfl (by kernel_rfl) (by kernel_rfl) (by kernel_rfl) hPF (Or.inl ⟨by kernel_rfl, ?_⟩) hHeld ?_
            rotate_left
            · intro w hSw; obtain ⟨s0, s1, s2, s3, s4, sg, y0, y1, y2, y3, y4⟩ := hSw; go_simp; try with_reducible rfl
            try simp only [Act.put, List.setIfInBounds_toArray, List.set_cons_zero, List.set_cons_succ]
            refine wpAnyH_takeD (i := 9) 90 (v := ?_) rfl rfl (by kernel_rfl) (by kernel_rfl) (by kernel_rfl) hPF (Or.inl ⟨by kernel_rfl, ?_⟩) hHeld ?_
            rotate_left
            · intro w hSw; obtain ⟨s0, s1, s2, s3, s4, sg, y0, y1, y2, y3, y4⟩ := hSw; go_simp; try with_reducible rfl
            try simp only [Act.put, List.setIfInBounds_toArray, List.set_cons_zero, List.set_cons_succ]
            refine wpAnyH_takeD (i := 10) 91 (v := ?_) rfl rfl (by kernel_rfl) (by kernel_rfl) (by kernel_rfl) hPF (Or.inl ⟨by kernel_rfl, ?_⟩) hHeld ?_
            rotate_left
            · intro w hSw; obtain ⟨s0, s1, s2, s3, s4, sg, y0, y1, y2, y3, y4⟩ := hSw; go_simp; try with_reducible rfl
            try simp only [Act.put, List.setIfInBounds_toArray, List.set_cons_zero, List.set_cons_succ]
            refine wpAnyH_takeD (i := 11) 92 (v := ?_) rfl rfl (by kernel_rfl) (by kernel_rfl) (by kernel_rfl) hPF (Or.inl ⟨by kernel_rfl, ?_⟩) hHeld ?_
            rotate_left
            · intro w hSw; obtain ⟨s0, s1, s2, s3, s4, sg, y0, y1, y2, y3, y4⟩ := hSw; go_simp; try with_reducible rfl
            try simp only [Act.put, List.setIfInBounds_toArray, List.set_cons_zero, List.set_cons_succ]
            refine wpAnyH_takeD (i := 12) 93 (v := ?_) rfl rfl (by kernel_rfl) (by kernel_rfl) (by kernel_rfl) hPF (Or.inl ⟨by kernel_rfl, ?_⟩) hHeld ?_
            rotate_left
            · intro w hSw; obtain ⟨s0, s1, s2, s3, s4, sg, y0, y1, y2, y3, y4⟩ := hSw; go_simp; try with_reducible rfl
            try simp only [Act.put, List.setIfInBounds_toArray, List.set_cons_zero, List.set_cons_succ]
            refine wpAnyH_takeD (i := 13) 94 (v := ?_) rfl rfl (by kernel_rfl) (by kernel_rfl) (by kernel_rfl) hPF (Or.inl ⟨by kernel_rfl, ?_⟩) hHeld ?_
            rotate_left
            · intro w hSw; obtain ⟨s0, s1, s2, s3, s4, sg, y0, y1, y2, y3, y4⟩ := hSw; go_simp; try with_reducible rfl
            try simp only [Act.put, List.setIfInBounds_toArray, List.set_cons_zero, List.set_cons_succ]
            refine wpAnyH_takeD (i := 14) 95 (v := ?_) rfl rfl (by kernel_rfl) (by kernel_rfl) (by kernel_rfl) hPF (Or.inl ⟨by kernel_rfl, ?_⟩) hHeld ?_
            rotate_left
            · intro w hSw; obtain ⟨s0, s1, s2, s3, s4, sg, y0, y1, y2, y3, y4⟩ := hSw; go_simp; try with_reducible rfl
            try simp only [Act.put, List.setIfInBounds_toArray, List.set_cons_zero, List.set_cons_succ]
            refine wpAnyH_takeD (i := 15) 96 (v := ?_) rfl rfl (by kernel_rfl) (by kernel_rfl) (by kernel_rfl) hPF (Or.inl ⟨by kernel_rfl, ?_⟩) hHeld ?_
            rotate_left
            · intro w hSw; obtain ⟨s0, s1, s2, s3, s4, sg, y0, y1, y2, y3, y4⟩ := hSw; go_simp; try with_reducible rfl
            try simp only [Act.put, List.setIfInBounds_toArray, List.set_cons_zero, List.set_cons_succ]
            refine wpAnyH_takeD (i := 16) 97 (v := ?_) rfl rfl (by kernel_rfl) (by kernel_rfl) (by kernel_rfl) hPF (Or.inl ⟨by kernel_rfl, ?_⟩) hHeld ?_
            rotate_left
            · intro w hSw; obtain ⟨s0, s1, s2, s3, s4, sg, y0, y1, y2, y3, y4⟩ := hSw; go_simp; try with_reducible rfl
            try simp only [Act.put, List.setIfInBounds_toArray, List.set_cons_zero, List.set_cons_succ]
            refine wpAnyH_takeD (i := 17) 98 (v := undef) rfl rfl (by kernel_rfl) (by kernel_rfl) (by kernel_rfl) hPF (Or.inr ⟨by kernel_rfl, rfl⟩) hHeld ?_
            try simp only [Act.put, List.setIfInBounds_toArray, List.set_cons_zero, List.set_cons_succ]
            refine wpAnyH_takeD (i := 18) 99 (v := undef) rfl rfl (by kernel_rfl) (by kernel_rfl) (by kernel_rfl) hPF (Or.inr ⟨by kernel_rfl, rfl⟩) hHeld ?_
            try simp only [Act.put, List.setIfInBounds_toArray, List.set_cons_zero, List.set_cons_succ]
            refine wpAnyH_takeD (i := 19) 100 (v := undef) rfl rfl (by kernel_rfl) (by kernel_rfl) (by kernel_rfl) hPF (Or.inr ⟨by kernel_rfl, rfl⟩) hHeld ?_
            try simp only [Act.put, List.setIfInBounds_toArray, List.set_cons_zero, List.set_cons_succ]
            refine wpAnyH_takeD (i := 20) 101 (v := undef) rfl rfl (by kernel_rfl) (by kernel_rfl) (by kernel_rfl) hPF (Or.inr ⟨by kernel_rfl, rfl⟩) hHeld ?_
            try simp only [Act.put, List.setIfInBounds_toArray, List.set_cons_zero, List.set_cons_succ]
            refine wpAnyH_takeD (i := 21) 102 (v := undef) rfl rfl (by kernel_rfl) (by kernel_rfl) (by kernel_rfl) hPF (Or.inr ⟨by kernel_rfl, rfl⟩) hHeld ?_
            try simp only [Act.put, List.setIfInBounds_toArray, List.set_cons_zero, List.set_cons_succ]
            refine wpAnyH_takeD (i := 22) 103 (v := undef) rfl rfl (by kernel_rfl) (by kernel_rfl) (by kernel_rfl) hPF (Or.inr ⟨by kernel_rfl, rfl⟩) hHeld ?_
            try simp only [Act.put, List.setIfInBounds_toArray, List.set_cons_zero, List.set_cons_succ]
            refine wpAnyH_takeD (i := 23) 104 (v := undef) rfl rfl (by kernel_rfl) (by kernel_rfl) (by kernel_rfl) hPF (Or.inr ⟨by kernel_rfl, rfl⟩) hHeld ?_
            try simp only [Act.put, List.setIfInBounds_toArray, List.set_cons_zero, List.set_cons_succ]
            refine wpAnyH_takeD (i := 24) 105 (v := undef) rfl rfl (by kernel_rfl) (by kernel_rfl) (by kernel_rfl) hPF (Or.inr ⟨by kernel_rfl, rfl⟩) hHeld ?_
            try simp only [Act.put, List.setIfInBounds_toArray, List.set_cons_zero, List.set_cons_succ]
            refine wpAnyH_takeD (i := 25) 106 (v := undef) rfl rfl (by kernel_rfl) (by kernel_rfl) (by kernel_rfl) hPF (Or.inr ⟨by kernel_rfl, rfl⟩) hHeld ?_
            try simp only [Act.put, List.setIfInBounds_toArray, List.set_cons_zero, List.set_cons_succ]
            refine wpAnyH_takeD (i := 26) 107 (v := undef) rfl rfl (by kernel_rfl) (by kernel_rfl) (by kernel_rfl) hPF (Or.inr ⟨by kernel_rfl, rfl⟩) hHeld ?_
            try simp only [Act.put, List.setIfInBounds_toArray, List.set_cons_zero, List.set_cons_succ]
            refine wpAnyH_takeD (i := 27) 108 (v := undef) rfl rfl (by kernel_rfl) (by kernel_rfl) (by kernel_rfl) hPF (Or.inr ⟨by kernel_rfl, rfl⟩) hHeld ?_
            try simp only [Act.put, List.setIfInBounds_toArray, List.set_cons_zero, List.set_cons_succ]
            refine wpAnyH_takeD (i := 28) 109 (v := undef) rfl rfl (by kernel_rfl) (by kernel_rfl) (by kernel_rfl) hPF (Or.inr ⟨by kernel_rfl, rfl⟩) hHeld ?_
            try simp only [Act.put, List.setIfInBounds_toArray, List.set_cons_zero, List.set_cons_succ]
            refine wpAnyH_takeD (i := 29) 110 (v := undef) rfl rfl (by kernel_rfl) (by kernel_rfl) (by kernel_rfl) hPF (Or.inr ⟨by kernel_rfl, rfl⟩) hHeld ?_
            try simp only [Act.put, List.setIfInBounds_toArray, List.set_cons_zero, List.set_cons_succ]
            refine wpAnyH_takeD (i := 30) 111 (v := undef) rfl rfl (by kernel_rfl) (by kernel_rfl) (by kernel_rfl) hPF (Or.inr ⟨by kernel_rfl, rfl⟩) hHeld ?_
            try simp only [Act.put, List.setIfInBounds_toArray, List.set_cons_zero, List.set_cons_succ]
            refine wpAnyH_takeD (i := 31) 112 (v := undef) rfl rfl (by kernel_rfl) (by kernel_rfl) (by kernel_rfl) hPF (Or.inr ⟨by kernel_rfl, rfl⟩) hHeld ?_
            try simp only [Act.put, List.setIfInBounds_toArray, List.set_cons_zero, List.set_cons_succ]
            refine wpAnyH_takeD (i := 32) 113 (v := undef) rfl rfl (by kernel_rfl) (by kernel_rfl) (by kernel_rfl) hPF (Or.inr ⟨by kernel_rfl, rfl⟩) hHeld ?_
            try simp only [Act.put, List.setIfInBounds_toArray, List.set_cons_zero, List.set_cons_succ]
            refine wpAnyH_takeD (i := 33) 114 (v := undef) rfl rfl (by kernel_rfl) (by kernel_rfl) (by kernel_rfl) hPF (Or.inr ⟨by kernel_rfl, rfl⟩) hHeld ?_
            try simp only [Act.put, List.setIfInBounds_toArray, List.set_cons_zero, List.set_cons_succ]
            refine wpAnyH_takeD (i := 34) 115 (v := undef) rfl rfl (by kernel_rfl) (by kernel_rfl) (by kernel_rfl) hPF (Or.inr ⟨by kernel_rfl, rfl⟩) hHeld ?_
            try simp only [Act.put, List.setIfInBounds_toArray, List.set_cons_zero, List.set_cons_succ]
            refine wpAnyH_takeD (i := 35) 116 (v := undef) rfl rfl (by kernel_rfl) (by kernel_rfl) (by kernel_rfl) hPF (Or.inr ⟨by kernel_rfl, rfl⟩) hHeld ?_
            try simp only [Act.put, List.setIfInBounds_toArray, List.set_cons_zero, List.set_cons_succ]
            refine wpAnyH_takeD (i := 36) 117 (v := undef) rfl rfl (by kernel_rfl) (by kernel_rfl) (by kernel_rfl) hPF (Or.inr ⟨by kernel_rfl, rfl⟩) hHeld ?_
            try simp only [Act.put, List.setIfInBounds_toArray, List.set_cons_zero, List.set_cons_succ]
            refine wpAnyH_takeD (i := 37) 118 (v := undef) rfl rfl (by kernel_rfl) (by kernel_rfl) (by kernel_rfl) hPF (Or.inr ⟨by kernel_rfl, rfl⟩) hHeld ?_
            try simp only [Act.put, List.setIfInBounds_toArray, List.set_cons_zero, List.set_cons_succ]
            refine wpAnyH_takeD (i := 38) 119 (v := undef) rfl rfl (by kernel_rfl) (by kernel_rfl) (by kernel_rfl) hPF (Or.inr ⟨by kernel_rfl, rfl⟩) hHeld ?_
            try simp only [Act.put, List.setIfInBounds_toArray, List.set_cons_zero, List.set_cons_succ]
            refine wpAnyH_takeD (i := 39) 120 (v := undef) rfl rfl (by kernel_rfl) (by kernel_rfl) (by kernel_rfl) hPF (Or.inr ⟨by kernel_rfl, rfl⟩) hHeld ?_
            try simp only [Act.put, List.setIfInBounds_toArray, List.set_cons_zero, List.set_cons_succ]
            refine wpAnyH_takeD (i := 40) 121 (v := undef) rfl rfl (by kernel_rfl) (by kernel_rfl) (by kernel_rfl) hPF (Or.inr ⟨by kernel_rfl, rfl⟩) hHeld ?_
            try simp only [Act.put, List.setIfInBounds_toArray, List.set_cons_zero, List.set_cons_succ]
            refine wpAnyH_takeD (i := 41) 122 (v := undef) rfl rfl (by kernel_rfl) (by kernel_rfl) (by kernel_rfl) hPF (Or.inr ⟨by kernel_rfl, rfl⟩) hHeld ?_
            try simp only [Act.put, List.setIfInBounds_toArray, List.set_cons_zero, List.set_cons_succ]
            refine wpAnyH_takeD (i := 42) 123 (v := undef) rfl rfl (by kernel_rfl) (by kernel_rfl) (by kernel_rfl) hPF (Or.inr ⟨by kernel_rfl, rfl⟩) hHeld ?_
            try simp only [Act.put, List.setIfInBounds_toArray, List.set_cons_zero, List.set_cons_succ]
            refine wpAnyH_takeD (i := 43) 124 (v := undef) rfl rfl (by kernel_rfl) (by kernel_rfl) (by kernel_rfl) hPF (Or.inr ⟨by kernel_rfl, rfl⟩) hHeld ?_
            try simp only [Act.put, List.setIfInBounds_toArray, List.set_cons_zero, List.set_cons_succ]
            refine wpAnyH_takeD (i := 44) 125 (v := undef) rfl rfl (by kernel_rfl) (by kernel_rfl) (by kernel_rfl) hPF (Or.inr ⟨by kernel_rfl, rfl⟩) hHeld ?_
            try simp only [Act.put, List.setIfInBounds_toArray, List.set_cons_zero, List.set_cons_succ]
            refine wpAnyH_takeD (i := 45) 126 (v := undef) rfl rfl (by kernel_rfl) (by kernel_rfl) (by kernel_rfl) hPF (Or.inr ⟨by kernel_rfl, rfl⟩) hHeld ?_
            try simp only [Act.put, List.setIfInBounds_toArray, List.set_cons_zero, List.set_cons_succ]
            refine wpAnyH_takeD (i := 46) 127 (v := undef) rfl rfl (by kernel_rfl) (by kernel_rfl) (by kernel_rfl) hPF (Or.inr ⟨by kernel_rfl, rfl⟩) hHeld ?_
            try simp only [Act.put, List.setIfInBounds_toArray, List.set_cons_zero, List.set_cons_succ]
            refine wpAnyH_takeD (i := 47) 128 (v := undef) rfl rfl (by kernel_rfl) (by kernel_rfl) (by kernel_rfl) hPF (Or.inr ⟨by kernel_rfl, rfl⟩) hHeld ?_
            try simp only [Act.put, List.setIfInBounds_toArray, List.set_cons_zero, List.set_cons_succ]
            refine wpAnyH_takeD (i := 48) 129 (v := ?_) rfl rfl (by kernel_rfl) (by kernel_rfl) (by kernel_rfl) hPF (Or.inl ⟨by kernel_rfl, ?_⟩) hHeld ?_
            rotate_left
            · intro w hSw; obtain ⟨s0, s1, s2, s3, s4, sg, y0, y1, y2, y3, y4⟩ := hSw; go_simp; try with_reducible rfl
            try simp only [Act.put, List.setIfInBounds_toArray, List.set_cons_zero, List.set_cons_succ]
            refine wpAnyH_takeD (i := 49) 130 (v := ?_) rfl rfl (by kernel_rfl) (by kernel_rfl) (by kernel_rfl) hPF (Or.inl ⟨by kernel_rfl, ?_⟩) hHeld ?_
            rotate_left
            · intro w hSw; obtain ⟨s0, s1, s2, s3, s4, sg, y0, y1, y2, y3, y4⟩ := hSw; go_simp; try with_reducible rfl
            try simp only [Act.put, List.setIfInBounds_toArray, List.set_cons_zero, List.set_cons_succ]
            refine wpAnyH_done (by kernel_rfl) ?_ _
            go_wp2_with fail
            go_roundw
            case rel =>
              try rw [HI.out]
              exact ⟨i + 1, HLI.out, by rw [Int.natCast_add]; rfl, HB5.out.drew |> Lib.hid⟩
            case measure =>
              try rw [HI.out]
              show m - ((i : Int) + 1).toNat < m - ((i : Int)).toNat
              have := HLI.out
              omega
          · obtain ⟨ip, rfl⟩ : ∃ ip, i = ip + 1 := ⟨i - 1, by omega⟩
            have hls := HLS.out ip rfl
            obtain ⟨b', off', eA, hbl', hcp⟩ := HPV.out ip rfl
            injection eA with eA
            injection eA with e1 e2
            subst e1 e2
            have hcp := hcp.below (B := w4.heap.size) HB5.out.drew hbl'
            obtain ⟨u, hu⟩ : ∃ u, s.l.getD ip pl0 = u := ⟨_, rfl⟩
            rw [hu] at hls hcp
            obtain ⟨u0, u1, u2, u3, u4⟩ := hcp
            obtain ⟨uv, um, up, us, ust⟩ := u
            have hSd : w5.drew.cell? ⟨wr.heap.size, 0, none⟩ = some (.int .i64 pv) ∧ w5.drew.cell? ⟨wr.heap.size, 1, none⟩ = some (.int .i64 pm) ∧ w5.drew.cell? ⟨wr.heap.size, 2, none⟩ = some (.int .i64 pp) ∧ w5.drew.cell? ⟨wr.heap.size, 3, none⟩ = some (.int .i64 ps) ∧ w5.drew.cell? ⟨wr.heap.size, 4, none⟩ = some (.bool pst) ∧ w5.drew.cell? ⟨w3.heap.size, 0, none⟩ = some (.slice (some ⟨bb, oo, none⟩) m cm') ∧ w5.drew.cell? ⟨bb, oo + k * 5, none⟩ = some (.int .i64 pv) ∧ w5.drew.cell? ⟨bb, oo + k * 5 + 1, none⟩ = some (.int .i64 pm) ∧ w5.drew.cell? ⟨bb, oo + k * 5 + 2, none⟩ = some (.int .i64 pp) ∧ w5.drew.cell? ⟨bb, oo + k * 5 + 3, none⟩ = some (.int .i64 ps) ∧ w5.drew.cell? ⟨bb, oo + k * 5 + 4, none⟩ = some (.bool pst) ∧ w5.drew.cell? ⟨b, off + ip * 5, none⟩ = some (.int .i64 uv) ∧ w5.drew.cell? ⟨b, off + ip * 5 + 1, none⟩ = some (.int .i64 um) := by
              obtain ⟨s0, s1, s2, s3, s4, sg, y0, y1, y2, y3, y4⟩ := HSD.out
              exact ⟨s0, s1, s2, s3, s4, sg, y0, y1, y2, y3, y4, u0, u1⟩
            have hls : uv < pv ∨ uv = pv ∧ um < pm := hls
            have HLT1 := Lib.hid hz
            have iw : IntKind.i64.wrap (ip : Int) = (ip : Int) := wrap_in (by omega) (by have := HM.out; have := HLI.out; omega)
            have ip1 : (ip : Int) < m := by omega
            have ip0 : (0 : Int) ≤ ip := by omega
            have ipp : (0 : Int) < ((ip + 1 : Nat) : Int) := by omega
            have ipq : 0 < ip + 1 := by omega
            clear HSD u0 u1 u2 u3 u4 hu hbl' hz
            by_cases ha : uv < pv
            · have g1 : ¬ pv < uv := by omega
              have g2 : (uv == pv) = false := by simpa using (show uv ≠ pv by omega)
              clear ha hls
              refine wp_region_heldD (S := fun w' => w'.cell? ⟨wr.heap.size, 0, none⟩ = some (.int .i64 pv) ∧ w'.cell? ⟨wr.heap.size, 1, none⟩ = some (.int .i64 pm) ∧ w'.cell? ⟨wr.heap.size, 2, none⟩ = some (.int .i64 pp) ∧ w'.cell? ⟨wr.heap.size, 3, none⟩ = some (.int .i64 ps) ∧ w'.cell? ⟨wr.heap.size, 4, none⟩ = some (.bool pst) ∧ w'.cell? ⟨w3.heap.size, 0, none⟩ = some (.slice (some ⟨bb, oo, none⟩) m cm') ∧ w'.cell? ⟨bb, oo + k * 5, none⟩ = some (.int .i64 pv) ∧ w'.cell? ⟨bb, oo + k * 5 + 1, none⟩ = some (.int .i64 pm) ∧ w'.cell? ⟨bb, oo + k * 5 + 2, none⟩ = some (.int .i64 pp) ∧ w'.cell? ⟨bb, oo + k * 5 + 3, none⟩ = some (.int .i64 ps) ∧ w'.cell? ⟨bb, oo + k * 5 + 4, none⟩ = some (.bool pst) ∧ w'.cell? ⟨b, off + ip * 5, none⟩ = some (.int .i64 uv) ∧ w'.cell? ⟨b, off + ip * 5 + 1, none⟩ = some (.int .i64 um)) (by kernel_rfl) (fun _ _ _ _ _ h => h) hSd (fun hPF hHeld => ?_)
              refine wpAnyH_takeD (i := 0) 81 (v := ?_) rfl rfl (by kernel_rfl) (by kernel_rfl) (by kernel_rfl) hPF (Or.inl ⟨by kernel_rfl, ?_⟩) hHeld ?_
              rotate_left
              · intro w hSw; obtain ⟨s0, s1, s2, s3, s4, sg, y0, y1, y2, y3, y4, u0, u1⟩ := hSw; go_simp; try with_reducible rfl
              try simp only [Act.put, List.setIfInBounds_toArray, List.set_cons_zero, List.set_cons_succ]
              refine wpAnyH_takeD (i := 1) 82 (v := ?_) rfl rfl (by kernel_rfl) (by kernel_rfl) (by kernel_rfl) hPF (Or.inl ⟨by kernel_rfl, ?_⟩) hHeld ?_
              rotate_left
              · intro w hSw; obtain ⟨s0, s1, s2, s3, s4, sg, y0, y1, y2, y3, y4, u0, u1⟩ := hSw; go_simp; try with_reducible rfl
              try simp only [Act.put, List.setIfInBounds_toArray, List.set_cons_zero, List.set_cons_succ]
              refine wpAnyH_takeD (i := 2) 83 (v := ?_) rfl rfl (by kernel_rfl) (by kernel_rfl) (by kernel_rfl) hPF (Or.inl ⟨by kernel_rfl, ?_⟩) hHeld ?_
              rotate_left
              · intro w hSw; obtain ⟨s0, s1, s2, s3, s4, sg, y0, y1, y2, y3, y4, u0, u1⟩ := hSw; go_simp; try with_reducible rfl
              try simp only [Act.put, List.setIfInBounds_toArray, List.set_cons_zero, List.set_cons_succ]
              refine wpAnyH_takeD (i := 3) 84 (v := ?_) rfl rfl (by kernel_rfl) (by kernel_rfl) (by kernel_rfl) hPF (Or.inl ⟨by kernel_rfl, ?_⟩) hHeld ?_
              rotate_left
              · intro w hSw; obtain ⟨s0, s1, s2, s3, s4, sg, y0, y1, y2, y3, y4, u0, u1⟩ := hSw; go_simp; try with_reducible rfl
              try simp only [Act.put, List.setIfInBounds_toArray, List.set_cons_zero, List.set_cons_succ]
              refine wpAnyH_takeD (i := 4) 85 (v := ?_) rfl rfl (by kernel_rfl) (by kernel_rfl) (by kernel_rfl) hPF (Or.inl ⟨by kernel_rfl, ?_⟩) hHeld ?_
              rotate_left
              · intro w hSw; obtain ⟨s0, s1, s2, s3, s4, sg, y0, y1, y2, y3, y4, u0, u1⟩ := hSw; go_simp; try with_reducible rfl
              try simp only [Act.put, List.setIfInBounds_toArray, List.set_cons_zero, List.set_cons_succ]
              refine wpAnyH_takeD (i := 5) 86 (v := ?_) rfl rfl (by kernel_rfl) (by kernel_rfl) (by kernel_rfl) hPF (Or.inl ⟨by kernel_rfl, ?_⟩) hHeld ?_
              rotate_left
              · intro w hSw; obtain ⟨s0, s1, s2, s3, s4, sg, y0, y1, y2, y3, y4, u0, u1⟩ := hSw; go_simp; try with_reducible rfl
              try simp only [Act.put, List.setIfInBounds_toArray, List.set_cons_zero, List.set_cons_succ]
              refine wpAnyH_takeD (i := 6) 87 (v := ?_) rfl rfl (by kernel_rfl) (by kernel_rfl) (by kernel_rfl) hPF (Or.inl ⟨by kernel_rfl, ?_⟩) hHeld ?_
              rotate_left
              · intro w hSw; obtain ⟨s0, s1, s2, s3, s4, sg, y0, y1, y2, y3, y4, u0, u1⟩ := hSw; go_simp; try with_reducible rfl
              try simp only [Act.put, List.setIfInBounds_toArray, List.set_cons_zero, List.set_cons_succ]
              refine wpAnyH_takeD (i := 7) 88 (v := ?_) rfl rfl (by kernel_rfl) (by kernel_rfl) (by kernel_rfl) hPF (Or.inl ⟨by kernel_rfl, ?_⟩) hHeld ?_
              rotate_left
              · intro w hSw; obtain ⟨s0, s1, s2, s3, s4, sg, y0, y1, y2, y3, y4, u0, u1⟩ := hSw; go_simp; try with_reducible rfl
              try simp only [Act.put, List.setIfInBounds_toArray, List.set_cons_zero, List.set_cons_succ]
              refine wpAnyH_takeD (i := 8) 89 (v := ?_) rfl rfl (by kernel_rfl) (by kernel_rfl) (by kernel_rfl) hPF (Or.inl ⟨by kernel_rfl, ?_⟩) hHeld ?_
              rotate_left
              · intro w hSw; obtain ⟨s0, s1, s2, s3, s4, sg, y0, y1, y2, y3, y4, u0, u1⟩ := hSw; go_simp; try with_reducible rfl
              try simp only [Act.put, List.setIfInBounds_toArray, List.set_cons_zero, List.set_cons_succ]
              refine wpAnyH_takeD (i := 9) 90 (v := ?_) rfl rfl (by kernel_rfl) (by kernel_rfl) (by kernel_rfl) hPF (Or.inl ⟨by kernel_rfl, ?_⟩) hHeld ?_
              rotate_left
              · intro w hSw; obtain ⟨s0, s1, s2, s3, s4, sg, y0, y1, y2, y3, y4, u0, u1⟩ := hSw; go_simp; try with_reducible rfl
              try simp only [Act.put, List.setIfInBounds_toArray, List.set_cons_zero, List.set_cons_succ]
              refine wpAnyH_takeD (i := 10) 91 (v := ?_) rfl rfl (by kernel_rfl) (by kernel_rfl) (by kernel_rfl) hPF (Or.inl ⟨by kernel_rfl, ?_⟩) hHeld ?_
              rotate_left
              · intro w hSw; obtain ⟨s0, s1, s2, s3, s4, sg, y0, y1, y2, y3, y4, u0, u1⟩ := hSw; go_simp; try with_reducible rfl
              try simp only [Act.put, List.setIfInBounds_toArray, List.set_cons_zero, List.set_cons_succ]
              refine wpAnyH_takeD (i := 11) 92 (v := ?_) rfl rfl (by kernel_rfl) (by kernel_rfl) (by kernel_rfl) hPF (Or.inl ⟨by kernel_rfl, ?_⟩) hHeld ?_
              rotate_left
              · intro w hSw; obtain ⟨s0, s1, s2, s3, s4, sg, y0, y1, y2, y3, y4, u0, u1⟩ := hSw; go_simp; try with_reducible rfl
              try simp only [Act.put, List.setIfInBounds_toArray, List.set_cons_zero, List.set_cons_succ]
              refine wpAnyH_takeD (i := 12) 93 (v := ?_) rfl rfl (by kernel_rfl) (by kernel_rfl) (by kernel_rfl) hPF (Or.inl ⟨by kernel_rfl, ?_⟩) hHeld ?_
              rotate_left
              · intro w hSw; obtain ⟨s0, s1, s2, s3, s4, sg, y0, y1, y2, y3, y4, u0, u1⟩ := hSw; go_simp; try with_reducible rfl
              try simp only [Act.put, List.setIfInBounds_toArray, List.set_cons_zero, List.set_cons_succ]
              refine wpAnyH_takeD (i := 13) 94 (v := ?_) rfl rfl (by kernel_rfl) (by kernel_rfl) (by kernel_rfl) hPF (Or.inl ⟨by kernel_rfl, ?_⟩) hHeld ?_
              rotate_left
              · intro w hSw; obtain ⟨s0, s1, s2, s3, s4, sg, y0, y1, y2, y3, y4, u0, u1⟩ := hSw; go_simp; try with_reducible rfl
              try simp only [Act.put, List.setIfInBounds_toArray, List.set_cons_zero, List.set_cons_succ]
              refine wpAnyH_takeD (i := 14) 95 (v := ?_) rfl rfl (by kernel_rfl) (by kernel_rfl) (by kernel_rfl) hPF (Or.inl ⟨by kernel_rfl, ?_⟩) hHeld ?_
              rotate_left
              · intro w hSw; obtain ⟨s0, s1, s2, s3, s4, sg, y0, y1, y2, y3, y4, u0, u1⟩ := hSw; go_simp; try with_reducible rfl
              try simp only [Act.put, List.setIfInBounds_toArray, List.set_cons_zero, List.set_cons_succ]
              refine wpAnyH_takeD (i := 15) 96 (v := ?_) rfl rfl (by kernel_rfl) (by kernel_rfl) (by kernel_rfl) hPF (Or.inl ⟨by kernel_rfl, ?_⟩) hHeld ?_
              rotate_left
              · intro w hSw; obtain ⟨s0, s1, s2, s3, s4, sg, y0, y1, y2, y3, y4, u0, u1⟩ := hSw; go_simp; try with_reducible rfl
              try simp only [Act.put, List.setIfInBounds_toArray, List.set_cons_zero, List.set_cons_succ]
              refine wpAnyH_takeD (i := 16) 97 (v := ?_) rfl rfl (by kernel_rfl) (by kernel_rfl) (by kernel_rfl) hPF (Or.inl ⟨by kernel_rfl, ?_⟩) hHeld ?_
              rotate_left
              · intro w hSw; obtain ⟨s0, s1, s2, s3, s4, sg, y0, y1, y2, y3, y4, u0, u1⟩ := hSw; go_simp; try with_reducible rfl
              try simp only [Act.put, List.setIfInBounds_toArray, List.set_cons_zero, List.set_cons_succ]
              refine wpAnyH_takeD (i := 17) 98 (v := ?_) rfl rfl (by kernel_rfl) (by kernel_rfl) (by kernel_rfl) hPF (Or.inl ⟨by kernel_rfl, ?_⟩) hHeld ?_
              rotate_left
              · intro w hSw; obtain ⟨s0, s1, s2, s3, s4, sg, y0, y1, y2, y3, y4, u0, u1⟩ := hSw; go_simp; try with_reducible rfl
              try simp only [Act.put, List.setIfInBounds_toArray, List.set_cons_zero, List.set_cons_succ]
              refine wpAnyH_takeD (i := 18) 99 (v := ?_) rfl rfl (by kernel_rfl) (by kernel_rfl) (by kernel_rfl) hPF (Or.inl ⟨by kernel_rfl, ?_⟩) hHeld ?_
              rotate_left
              · intro w hSw; obtain ⟨s0, s1, s2, s3, s4, sg, y0, y1, y2, y3, y4, u0, u1⟩ := hSw; go_simp; try with_reducible rfl
              try simp only [Act.put, List.setIfInBounds_toArray, List.set_cons_zero, List.set_cons_succ]
              refine wpAnyH_takeD (i := 19) 100 (v := ?_) rfl rfl (by kernel_rfl) (by kernel_rfl) (by kernel_rfl) hPF (Or.inl ⟨by kernel_rfl, ?_⟩) hHeld ?_
              rotate_left
              · intro w hSw; obtain ⟨s0, s1, s2, s3, s4, sg, y0, y1, y2, y3, y4, u0, u1⟩ := hSw; go_simp; try with_reducible rfl
              try simp only [Act.put, List.setIfInBounds_toArray, List.set_cons_zero, List.set_cons_succ]
              refine wpAnyH_takeD (i := 20) 101 (v := ?_) rfl rfl (by kernel_rfl) (by kernel_rfl) (by kernel_rfl) hPF (Or.inl ⟨by kernel_rfl, ?_⟩) hHeld ?_
              rotate_left
              · intro w hSw; obtain ⟨s0, s1, s2, s3, s4, sg, y0, y1, y2, y3, y4, u0, u1⟩ := hSw; go_simp; try with_reducible rfl
              try simp only [Act.put, List.setIfInBounds_toArray, List.set_cons_zero, List.set_cons_succ]
              refine wpAnyH_takeD (i := 21) 102 (v := ?_) rfl rfl (by kernel_rfl) (by kernel_rfl) (by kernel_rfl) hPF (Or.inl ⟨by kernel_rfl, ?_⟩) hHeld ?_
              rotate_left
              · intro w hSw; obtain ⟨s0, s1, s2, s3, s4, sg, y0, y1, y2, y3, y4, u0, u1⟩ := hSw; go_simp; try with_reducible rfl
              try simp only [Act.put, List.setIfInBounds_toArray, List.set_cons_zero, List.set_cons_succ]
              refine wpAnyH_takeD (i := 22) 103 (v := ?_) rfl rfl (by kernel_rfl) (by kernel_rfl) (by kernel_rfl) hPF (Or.inl ⟨by kernel_rfl, ?_⟩) hHeld ?_
              rotate_left
              · intro w hSw; obtain ⟨s0, s1, s2, s3, s4, sg, y0, y1, y2, y3, y4, u0, u1⟩ := hSw; go_simp; try with_reducible rfl
              try simp only [Act.put, List.setIfInBounds_toArray, List.set_cons_zero, List.set_cons_succ]
              refine wpAnyH_takeD (i := 23) 104 (v := ?_) rfl rfl (by kernel_rfl) (by kernel_rfl) (by kernel_rfl) hPF (Or.inl ⟨by kernel_rfl, ?_⟩) hHeld ?_
              rotate_left
              · intro w hSw; obtain ⟨s0, s1, s2, s3, s4, sg, y0, y1, y2, y3, y4, u0, u1⟩ := hSw; go_simp; try with_reducible rfl
              try simp only [Act.put, List.setIfInBounds_toArray, List.set_cons_zero, List.set_cons_succ]
              refine wpAnyH_takeD (i := 24) 105 (v := ?_) rfl rfl (by kernel_rfl) (by kernel_rfl) (by kernel_rfl) hPF (Or.inl ⟨by kernel_rfl, ?_⟩) hHeld ?_
              rotate_left
              · intro w hSw; obtain ⟨s0, s1, s2, s3, s4, sg, y0, y1, y2, y3, y4, u0, u1⟩ := hSw; go_simp; try with_reducible rfl
              try simp only [Act.put, List.setIfInBounds_toArray, List.set_cons_zero, List.set_cons_succ]
              refine wpAnyH_takeD (i := 25) 106 (v := ?_) rfl rfl (by kernel_rfl) (by kernel_rfl) (by kernel_rfl) hPF (Or.inl ⟨by kernel_rfl, ?_⟩) hHeld ?_
              rotate_left
              · intro w hSw; obtain ⟨s0, s1, s2, s3, s4, sg, y0, y1, y2, y3, y4, u0, u1⟩ := hSw; go_simp; try with_reducible rfl
              try simp only [Act.put, List.setIfInBounds_toArray, List.set_cons_zero, List.set_cons_succ]
              refine wpAnyH_takeD (i := 26) 107 (v := ?_) rfl rfl (by kernel_rfl) (by kernel_rfl) (by kernel_rfl) hPF (Or.inl ⟨by kernel_rfl, ?_⟩) hHeld ?_
              rotate_left
              · intro w hSw; obtain ⟨s0, s1, s2, s3, s4, sg, y0, y1, y2, y3, y4, u0, u1⟩ := hSw; go_simp; try with_reducible rfl
              try simp only [Act.put, List.setIfInBounds_toArray, List.set_cons_zero, List.set_cons_succ]
              refine wpAnyH_takeD (i := 27) 108 (v := ?_) rfl rfl (by kernel_rfl) (by kernel_rfl) (by kernel_rfl) hPF (Or.inl ⟨by kernel_rfl, ?_⟩) hHeld ?_
              rotate_left
              · intro w hSw; obtain ⟨s0, s1, s2, s3, s4, sg, y0, y1, y2, y3, y4, u0, u1⟩ := hSw; go_simp; try with_reducible rfl
              try simp only [Act.put, List.setIfInBounds_toArray, List.set_cons_zero, List.set_cons_succ]
              refine wpAnyH_takeD (i := 28) 109 (v := ?_) rfl rfl (by kernel_rfl) (by kernel_rfl) (by kernel_rfl) hPF (Or.inl ⟨by kernel_rfl, ?_⟩) hHeld ?_
              rotate_left
              · intro w hSw; obtain ⟨s0, s1, s2, s3, s4, sg, y0, y1, y2, y3, y4, u0, u1⟩ := hSw; go_simp; try with_reducible rfl
              try simp only [Act.put, List.setIfInBounds_toArray, List.set_cons_zero, List.set_cons_succ]
              refine wpAnyH_takeD (i := 29) 110 (v := ?_) rfl rfl (by kernel_rfl) (by kernel_rfl) (by kernel_rfl) hPF (Or.inl ⟨by kernel_rfl, ?_⟩) hHeld ?_
              rotate_left
              · intro w hSw; obtain ⟨s0, s1, s2, s3, s4, sg, y0, y1, y2, y3, y4, u0, u1⟩ := hSw; go_simp; try with_reducible rfl
              try simp only [Act.put, List.setIfInBounds_toArray, List.set_cons_zero, List.set_cons_succ]
              refine wpAnyH_takeD (i := 30) 111 (v := ?_) rfl rfl (by kernel_rfl) (by kernel_rfl) (by kernel_rfl) hPF (Or.inl ⟨by kernel_rfl, ?_⟩) hHeld ?_
              rotate_left
              · intro w hSw; obtain ⟨s0, s1, s2, s3, s4, sg, y0, y1, y2, y3, y4, u0, u1⟩ := hSw; go_simp; try with_reducible rfl
              try simp only [Act.put, List.setIfInBounds_toArray, List.set_cons_zero, List.set_cons_succ]
              refine wpAnyH_takeD (i := 31) 112 (v := ?_) rfl rfl (by kernel_rfl) (by kernel_rfl) (by kernel_rfl) hPF (Or.inl ⟨by kernel_rfl, ?_⟩) hHeld ?_
              rotate_left
              · intro w hSw; obtain ⟨s0, s1, s2, s3, s4, sg, y0, y1, y2, y3, y4, u0, u1⟩ := hSw; go_simp; try with_reducible rfl
              try simp only [Act.put, List.setIfInBounds_toArray, List.set_cons_zero, List.set_cons_succ]
              refine wpAnyH_takeD (i := 32) 113 (v := ?_) rfl rfl (by kernel_rfl) (by kernel_rfl) (by kernel_rfl) hPF (Or.inl ⟨by kernel_rfl, ?_⟩) hHeld ?_
              rotate_left
              · intro w hSw; obtain ⟨s0, s1, s2, s3, s4, sg, y0, y1, y2, y3, y4, u0, u1⟩ := hSw; go_simp; try with_reducible rfl
              try simp only [Act.put, List.setIfInBounds_toArray, List.set_cons_zero, List.set_cons_succ]
              refine wpAnyH_takeD (i := 33) 114 (v := ?_) rfl rfl (by kernel_rfl) (by kernel_rfl) (by kernel_rfl) hPF (Or.inl ⟨by kernel_rfl, ?_⟩) hHeld ?_
              rotate_left
              · intro w hSw; obtain ⟨s0, s1, s2, s3, s4, sg, y0, y1, y2, y3, y4, u0, u1⟩ := hSw; go_simp; try with_reducible rfl
              try simp only [Act.put, List.setIfInBounds_toArray, List.set_cons_zero, List.set_cons_succ]
              refine wpAnyH_takeD (i := 34) 115 (v := ?_) rfl rfl (by kernel_rfl) (by kernel_rfl) (by kernel_rfl) hPF (Or.inl ⟨by kernel_rfl, ?_⟩) hHeld ?_
              rotate_left
              · intro w hSw; obtain ⟨s0, s1, s2, s3, s4, sg, y0, y1, y2, y3, y4, u0, u1⟩ := hSw; go_simp; try with_reducible rfl
              try simp only [Act.put, List.setIfInBounds_toArray, List.set_cons_zero, List.set_cons_succ]
              refine wpAnyH_takeD (i := 35) 116 (v := ?_) rfl rfl (by kernel_rfl) (by kernel_rfl) (by kernel_rfl) hPF (Or.inl ⟨by kernel_rfl, ?_⟩) hHeld ?_
              rotate_left
              · intro w hSw; obtain ⟨s0, s1, s2, s3, s4, sg, y0, y1, y2, y3, y4, u0, u1⟩ := hSw; go_simp; try with_reducible rfl
              try simp only [Act.put, List.setIfInBounds_toArray, List.set_cons_zero, List.set_cons_succ]
              refine wpAnyH_takeD (i := 36) 117 (v := ?_) rfl rfl (by kernel_rfl) (by kernel_rfl) (by kernel_rfl) hPF (Or.inl ⟨by kernel_rfl, ?_⟩) hHeld ?_
              rotate_left
              · intro w hSw; obtain ⟨s0, s1, s2, s3, s4, sg, y0, y1, y2, y3, y4, u0, u1⟩ := hSw; go_simp; try with_reducible rfl
              try simp only [Act.put, List.setIfInBounds_toArray, List.set_cons_zero, List.set_cons_succ]
              refine wpAnyH_takeD (i := 37) 118 (v := undef) rfl rfl (by kernel_rfl) (by kernel_rfl) (by kernel_rfl) hPF (Or.inr ⟨by kernel_rfl, rfl⟩) hHeld ?_
              try simp only [Act.put, List.setIfInBounds_toArray, List.set_cons_zero, List.set_cons_succ]
              refine wpAnyH_takeD (i := 38) 119 (v := undef) rfl rfl (by kernel_rfl) (by kernel_rfl) (by kernel_rfl) hPF (Or.inr ⟨by kernel_rfl, rfl⟩) hHeld ?_
              try simp only [Act.put, List.setIfInBounds_toArray, List.set_cons_zero, List.set_cons_succ]
              refine wpAnyH_takeD (i := 39) 120 (v := undef) rfl rfl (by kernel_rfl) (by kernel_rfl) (by kernel_rfl) hPF (Or.inr ⟨by kernel_rfl, rfl⟩) hHeld ?_
              try simp only [Act.put, List.setIfInBounds_toArray, List.set_cons_zero, List.set_cons_succ]
              refine wpAnyH_takeD (i := 40) 121 (v := undef) rfl rfl (by kernel_rfl) (by kernel_rfl) (by kernel_rfl) hPF (Or.inr ⟨by kernel_rfl, rfl⟩) hHeld ?_
              try simp only [Act.put, List.setIfInBounds_toArray, List.set_cons_zero, List.set_cons_succ]
              refine wpAnyH_takeD (i := 41) 122 (v := undef) rfl rfl (by kernel_rfl) (by kernel_rfl) (by kernel_rfl) hPF (Or.inr ⟨by kernel_rfl, rfl⟩) hHeld ?_
              try simp only [Act.put, List.setIfInBounds_toArray, List.set_cons_zero, List.set_cons_succ]
              refine wpAnyH_takeD (i := 42) 123 (v := undef) rfl rfl (by kernel_rfl) (by kernel_rfl) (by kernel_rfl) hPF (Or.inr ⟨by kernel_rfl, rfl⟩) hHeld ?_
              try simp only [Act.put, List.setIfInBounds_toArray, List.set_cons_zero, List.set_cons_succ]
              refine wpAnyH_takeD (i := 43) 124 (v := undef) rfl rfl (by kernel_rfl) (by kernel_rfl) (by kernel_rfl) hPF (Or.inr ⟨by kernel_rfl, rfl⟩) hHeld ?_
              try simp only [Act.put, List.setIfInBounds_toArray, List.set_cons_zero, List.set_cons_succ]
              refine wpAnyH_takeD (i := 44) 125 (v := undef) rfl rfl (by kernel_rfl) (by kernel_rfl) (by kernel_rfl) hPF (Or.inr ⟨by kernel_rfl, rfl⟩) hHeld ?_
              try simp only [Act.put, List.setIfInBounds_toArray, List.set_cons_zero, List.set_cons_succ]
              refine wpAnyH_takeD (i := 45) 126 (v := undef) rfl rfl (by kernel_rfl) (by kernel_rfl) (by kernel_rfl) hPF (Or.inr ⟨by kernel_rfl, rfl⟩) hHeld ?_
              try simp only [Act.put, List.setIfInBounds_toArray, List.set_cons_zero, List.set_cons_succ]
              refine wpAnyH_takeD (i := 46) 127 (v := ?_) rfl rfl (by kernel_rfl) (by kernel_rfl) (by kernel_rfl) hPF (Or.inl ⟨by kernel_rfl, ?_⟩) hHeld ?_
              rotate_left
              · intro w hSw; obtain ⟨s0, s1, s2, s3, s4, sg, y0, y1, y2, y3, y4, u0, u1⟩ := hSw; go_simp; try with_reducible rfl
              try simp only [Act.put, List.setIfInBounds_toArray, List.set_cons_zero, List.set_cons_succ]
              refine wpAnyH_takeD (i := 47) 128 (v := ?_) rfl rfl (by kernel_rfl) (by kernel_rfl) (by kernel_rfl) hPF (Or.inl ⟨by kernel_rfl, ?_⟩) hHeld ?_
              rotate_left
              · intro w hSw; obtain ⟨s0, s1, s2, s3, s4, sg, y0, y1, y2, y3, y4, u0, u1⟩ := hSw; go_simp; try with_reducible rfl
              try simp only [Act.put, List.setIfInBounds_toArray, List.set_cons_zero, List.set_cons_succ]
              refine wpAnyH_takeD (i := 48) 129 (v := ?_) rfl rfl (by kernel_rfl) (by kernel_rfl) (by kernel_rfl) hPF (Or.inl ⟨by kernel_rfl, ?_⟩) hHeld ?_
              rotate_left
              · intro w hSw; obtain ⟨s0, s1, s2, s3, s4, sg, y0, y1, y2, y3, y4, u0, u1⟩ := hSw; go_simp; try with_reducible rfl
              try simp only [Act.put, List.setIfInBounds_toArray, List.set_cons_zero, List.set_cons_succ]
              refine wpAnyH_takeD (i := 49) 130 (v := ?_) rfl rfl (by kernel_rfl) (by kernel_rfl) (by kernel_rfl) hPF (Or.inl ⟨by kernel_rfl, ?_⟩) hHeld ?_
              rotate_left
              · intro w hSw; obtain ⟨s0, s1, s2, s3, s4, sg, y0, y1, y2, y3, y4, u0, u1⟩ := hSw; go_simp; try with_reducible rfl
              try simp only [Act.put, List.setIfInBounds_toArray, List.set_cons_zero, List.set_cons_succ]
              refine wpAnyH_done (by kernel_rfl) ?_ _
              have HI2 := Lib.hid (show wrap64 ((ip : Int) + 1 + 1) = (ip : Int) + 1 + 1 from IntWalk.wrap64_in _ (by have := HM.out; have := HLI.out; omega))
              go_wp2_with fail
              go_roundw
              case rel =>
                rw [HI2.out]
                exact ⟨ip + 1 + 1, HLI.out, by rw [Int.natCast_add, Int.natCast_add]; rfl, HB5.out.drew |> Lib.hid⟩
              case measure =>
                rw [HI2.out]
                show m - ((ip : Int) + 1 + 1).toNat < m - ((ip + 1 : Nat) : Int).toNat
                have := HLI.out
                omega
            · obtain ⟨h1, h2⟩ := hls.resolve_left ha
              have h1 := h1.symm
              subst h1
              have g1 : ¬ pm ≤ um := by omega
              clear ha hls h2
              refine wp_region_heldD (S := fun w' => w'.cell? ⟨wr.heap.size, 0, none⟩ = some (.int .i64 pv) ∧ w'.cell? ⟨wr.heap.size, 1, none⟩ = some (.int .i64 pm) ∧ w'.cell? ⟨wr.heap.size, 2, none⟩ = some (.int .i64 pp) ∧ w'.cell? ⟨wr.heap.size, 3, none⟩ = some (.int .i64 ps) ∧ w'.cell? ⟨wr.heap.size, 4, none⟩ = some (.bool pst) ∧ w'.cell? ⟨w3.heap.size, 0, none⟩ = some (.slice (some ⟨bb, oo, none⟩) m cm') ∧ w'.cell? ⟨bb, oo + k * 5, none⟩ = some (.int .i64 pv) ∧ w'.cell? ⟨bb, oo + k * 5 + 1, none⟩ = some (.int .i64 pm) ∧ w'.cell? ⟨bb, oo + k * 5 + 2, none⟩ = some (.int .i64 pp) ∧ w'.cell? ⟨bb, oo + k * 5 + 3, none⟩ = some (.int .i64 ps) ∧ w'.cell? ⟨bb, oo + k * 5 + 4, none⟩ = some (.bool pst) ∧ w'.cell? ⟨b, off + ip * 5, none⟩ = some (.int .i64 pv) ∧ w'.cell? ⟨b, off + ip * 5 + 1, none⟩ = some (.int .i64 um)) (by kernel_rfl) (fun _ _ _ _ _ h => h) hSd (fun hPF hHeld => ?_)
              refine wpAnyH_takeD (i := 0) 81 (v := ?_) rfl rfl (by kernel_rfl) (by kernel_rfl) (by kernel_rfl) hPF (Or.inl ⟨by kernel_rfl, ?_⟩) hHeld ?_
              rotate_left
              · intro w hSw; obtain ⟨s0, s1, s2, s3, s4, sg, y0, y1, y2, y3, y4, u0, u1⟩ := hSw; go_simp; try with_reducible rfl
              try simp only [Act.put, List.setIfInBounds_toArray, List.set_cons_zero, List.set_cons_succ]
              refine wpAnyH_takeD (i := 1) 82 (v := ?_) rfl rfl (by kernel_rfl) (by kernel_rfl) (by kernel_rfl) hPF (Or.inl ⟨by kernel_rfl, ?_⟩) hHeld ?_
              rotate_left
              · intro w hSw; obtain ⟨s0, s1, s2, s3, s4, sg, y0, y1, y2, y3, y4, u0, u1⟩ := hSw; go_simp; try with_reducible rfl
              try simp only [Act.put, List.setIfInBounds_toArray, List.set_cons_zero, List.set_cons_succ]
              refine wpAnyH_takeD (i := 2) 83 (v := ?_) rfl rfl (by kernel_rfl) (by kernel_rfl) (by kernel_rfl) hPF (Or.inl ⟨by kernel_rfl, ?_⟩) hHeld ?_
              rotate_left
              · intro w hSw; obtain ⟨s0, s1, s2, s3, s4, sg, y0, y1, y2, y3, y4, u0, u1⟩ := hSw; go_simp; try with_reducible rfl
              try simp only [Act.put, List.setIfInBounds_toArray, List.set_cons_zero, List.set_cons_succ]
              refine wpAnyH_takeD (i := 3) 84 (v := ?_) rfl rfl (by kernel_rfl) (by kernel_rfl) (by kernel_rfl) hPF (Or.inl ⟨by kernel_rfl, ?_⟩) hHeld ?_
              rotate_left
              · intro w hSw; obtain ⟨s0, s1, s2, s3, s4, sg, y0, y1, y2, y3, y4, u0, u1⟩ := hSw; go_simp; try with_reducible rfl
              try simp only [Act.put, List.setIfInBounds_toArray, List.set_cons_zero, List.set_cons_succ]
              refine wpAnyH_takeD (i := 4) 85 (v := ?_) rfl rfl (by kernel_rfl) (by kernel_rfl) (by kernel_rfl) hPF (Or.inl ⟨by kernel_rfl, ?_⟩) hHeld ?_
              rotate_left
              · intro w hSw; obtain ⟨s0, s1, s2, s3, s4, sg, y0, y1, y2, y3, y4, u0, u1⟩ := hSw; go_simp; try with_reducible rfl
              try simp only [Act.put, List.setIfInBounds_toArray, List.set_cons_zero, List.set_cons_succ]
              refine wpAnyH_takeD (i := 5) 86 (v := ?_) rfl rfl (by kernel_rfl) (by kernel_rfl) (by kernel_rfl) hPF (Or.inl ⟨by kernel_rfl, ?_⟩) hHeld ?_
              rotate_left
              · intro w hSw; obtain ⟨s0, s1, s2, s3, s4, sg, y0, y1, y2, y3, y4, u0, u1⟩ := hSw; go_simp; try with_reducible rfl
              try simp only [Act.put, List.setIfInBounds_toArray, List.set_cons_zero, List.set_cons_succ]
              refine wpAnyH_takeD (i := 6) 87 (v := ?_) rfl rfl (by kernel_rfl) (by kernel_rfl) (by kernel_rfl) hPF (Or.inl ⟨by kernel_rfl, ?_⟩) hHeld ?_
              rotate_left
              · intro w hSw; obtain ⟨s0, s1, s2, s3, s4, sg, y0, y1, y2, y3, y4, u0, u1⟩ := hSw; go_simp; try with_reducible rfl
              try simp only [Act.put, List.setIfInBounds_toArray, List.set_cons_zero, List.set_cons_succ]
              refine wpAnyH_takeD (i := 7) 88 (v := ?_) rfl rfl (by kernel_rfl) (by kernel_rfl) (by kernel_rfl) hPF (Or.inl ⟨by kernel_rfl, ?_⟩) hHeld ?_
              rotate_left
              · intro w hSw; obtain ⟨s0, s1, s2, s3, s4, sg, y0, y1, y2, y3, y4, u0, u1⟩ := hSw; go_simp; try with_reducible rfl
              try simp only [Act.put, List.setIfInBounds_toArray, List.set_cons_zero, List.set_cons_succ]
              refine wpAnyH_takeD (i := 8) 89 (v := ?_) rfl rfl (by kernel_rfl) (by kernel_rfl) (by kernel_rfl) hPF (Or.inl ⟨by kernel_rfl, ?_⟩) hHeld ?_
              rotate_left
              · intro w hSw; obtain ⟨s0, s1, s2, s3, s4, sg, y0, y1, y2, y3, y4, u0, u1⟩ := hSw; go_simp; try with_reducible rfl
              try simp only [Act.put, List.setIfInBounds_toArray, List.set_cons_zero, List.set_cons_succ]
              refine wpAnyH_takeD (i := 9) 90 (v := ?_) rfl rfl (by kernel_rfl) (by kernel_rfl) (by kernel_rfl) hPF (Or.inl ⟨by kernel_rfl, ?_⟩) hHeld ?_
              rotate_left
              · intro w hSw; obtain ⟨s0, s1, s2, s3, s4, sg, y0, y1, y2, y3, y4, u0, u1⟩ := hSw; go_simp; try with_reducible rfl
              try simp only [Act.put, List.setIfInBounds_toArray, List.set_cons_zero, List.set_cons_succ]
              refine wpAnyH_takeD (i := 10) 91 (v := ?_) rfl rfl (by kernel_rfl) (by kernel_rfl) (by kernel_rfl) hPF (Or.inl ⟨by kernel_rfl, ?_⟩) hHeld ?_
              rotate_left
              · intro w hSw; obtain ⟨s0, s1, s2, s3, s4, sg, y0, y1, y2, y3, y4, u0, u1⟩ := hSw; go_simp; try with_reducible rfl
              try simp only [Act.put, List.setIfInBounds_toArray, List.set_cons_zero, List.set_cons_succ]
              refine wpAnyH_takeD (i := 11) 92 (v := ?_) rfl rfl (by kernel_rfl) (by kernel_rfl) (by kernel_rfl) hPF (Or.inl ⟨by kernel_rfl, ?_⟩) hHeld ?_
              rotate_left
              · intro w hSw; obtain ⟨s0, s1, s2, s3, s4, sg, y0, y1, y2, y3, y4, u0, u1⟩ := hSw; go_simp; try with_reducible rfl
              try simp only [Act.put, List.setIfInBounds_toArray, List.set_cons_zero, List.set_cons_succ]
              refine wpAnyH_takeD (i := 12) 93 (v := ?_) rfl rfl (by kernel_rfl) (by kernel_rfl) (by kernel_rfl) hPF (Or.inl ⟨by kernel_rfl, ?_⟩) hHeld ?_
              rotate_left
              · intro w hSw; obtain ⟨s0, s1, s2, s3, s4, sg, y0, y1, y2, y3, y4, u0, u1⟩ := hSw; go_simp; try with_reducible rfl
              try simp only [Act.put, List.setIfInBounds_toArray, List.set_cons_zero, List.set_cons_succ]
              refine wpAnyH_takeD (i := 13) 94 (v := ?_) rfl rfl (by kernel_rfl) (by kernel_rfl) (by kernel_rfl) hPF (Or.inl ⟨by kernel_rfl, ?_⟩) hHeld ?_
              rotate_left
              · intro w hSw; obtain ⟨s0, s1, s2, s3, s4, sg, y0, y1, y2, y3, y4, u0, u1⟩ := hSw; go_simp; try with_reducible rfl
              try simp only [Act.put, List.setIfInBounds_toArray, List.set_cons_zero, List.set_cons_succ]
              refine wpAnyH_takeD (i := 14) 95 (v := ?_) rfl rfl (by kernel_rfl) (by kernel_rfl) (by kernel_rfl) hPF (Or.inl ⟨by kernel_rfl, ?_⟩) hHeld ?_
              rotate_left
              · intro w hSw; obtain ⟨s0, s1, s2, s3, s4, sg, y0, y1, y2, y3, y4, u0, u1⟩ := hSw; go_simp; try with_reducible rfl
              try simp only [Act.put, List.setIfInBounds_toArray, List.set_cons_zero, List.set_cons_succ]
              refine wpAnyH_takeD (i := 15) 96 (v := ?_) rfl rfl (by kernel_rfl) (by kernel_rfl) (by kernel_rfl) hPF (Or.inl ⟨by kernel_rfl, ?_⟩) hHeld ?_
              rotate_left
              · intro w hSw; obtain ⟨s0, s1, s2, s3, s4, sg, y0, y1, y2, y3, y4, u0, u1⟩ := hSw; go_simp; try with_reducible rfl
              try simp only [Act.put, List.setIfInBounds_toArray, List.set_cons_zero, List.set_cons_succ]
              refine wpAnyH_takeD (i := 16) 97 (v := ?_) rfl rfl (by kernel_rfl) (by kernel_rfl) (by kernel_rfl) hPF (Or.inl ⟨by kernel_rfl, ?_⟩) hHeld ?_
              rotate_left
              · intro w hSw; obtain ⟨s0, s1, s2, s3, s4, sg, y0, y1, y2, y3, y4, u0, u1⟩ := hSw; go_simp; try with_reducible rfl
              try simp only [Act.put, List.setIfInBounds_toArray, List.set_cons_zero, List.set_cons_succ]
              refine wpAnyH_takeD (i := 17) 98 (v := ?_) rfl rfl (by kernel_rfl) (by kernel_rfl) (by kernel_rfl) hPF (Or.inl ⟨by kernel_rfl, ?_⟩) hHeld ?_
              rotate_left
              · intro w hSw; obtain ⟨s0, s1, s2, s3, s4, sg, y0, y1, y2, y3, y4, u0, u1⟩ := hSw; go_simp; try with_reducible rfl
              try simp only [Act.put, List.setIfInBounds_toArray, List.set_cons_zero, List.set_cons_succ]
              refine wpAnyH_takeD (i := 18) 99 (v := ?_) rfl rfl (by kernel_rfl) (by kernel_rfl) (by kernel_rfl) hPF (Or.inl ⟨by kernel_rfl, ?_⟩) hHeld ?_
              rotate_left
              · intro w hSw; obtain ⟨s0, s1, s2, s3, s4, sg, y0, y1, y2, y3, y4, u0, u1⟩ := hSw; go_simp; try with_reducible rfl
              try simp only [Act.put, List.setIfInBounds_toArray, List.set_cons_zero, List.set_cons_succ]
              refine wpAnyH_takeD (i := 19) 100 (v := ?_) rfl rfl (by kernel_rfl) (by kernel_rfl) (by kernel_rfl) hPF (Or.inl ⟨by kernel_rfl, ?_⟩) hHeld ?_
              rotate_left
              · intro w hSw; obtain ⟨s0, s1, s2, s3, s4, sg, y0, y1, y2, y3, y4, u0, u1⟩ := hSw; go_simp; try with_reducible rfl
              try simp only [Act.put, List.setIfInBounds_toArray, List.set_cons_zero, List.set_cons_succ]
              refine wpAnyH_takeD (i := 20) 101 (v := ?_) rfl rfl (by kernel_rfl) (by kernel_rfl) (by kernel_rfl) hPF (Or.inl ⟨by kernel_rfl, ?_⟩) hHeld ?_
              rotate_left
              · intro w hSw; obtain ⟨s0, s1, s2, s3, s4, sg, y0, y1, y2, y3, y4, u0, u1⟩ := hSw; go_simp; try with_reducible rfl
              try simp only [Act.put, List.setIfInBounds_toArray, List.set_cons_zero, List.set_cons_succ]
              refine wpAnyH_takeD (i := 21) 102 (v := ?_) rfl rfl (by kernel_rfl) (by kernel_rfl) (by kernel_rfl) hPF (Or.inl ⟨by kernel_rfl, ?_⟩) hHeld ?_
              rotate_left
              · intro w hSw; obtain ⟨s0, s1, s2, s3, s4, sg, y0, y1, y2, y3, y4, u0, u1⟩ := hSw; go_simp; try with_reducible rfl
              try simp only [Act.put, List.setIfInBounds_toArray, List.set_cons_zero, List.set_cons_succ]
              refine wpAnyH_takeD (i := 22) 103 (v := ?_) rfl rfl (by kernel_rfl) (by kernel_rfl) (by kernel_rfl) hPF (Or.inl ⟨by kernel_rfl, ?_⟩) hHeld ?_
              rotate_left
              · intro w hSw; obtain ⟨s0, s1, s2, s3, s4, sg, y0, y1, y2, y3, y4, u0, u1⟩ := hSw; go_simp; try with_reducible rfl
              try simp only [Act.put, List.setIfInBounds_toArray, List.set_cons_zero, List.set_cons_succ]
              refine wpAnyH_takeD (i := 23) 104 (v := ?_) rfl rfl (by kernel_rfl) (by kernel_rfl) (by kernel_rfl) hPF (Or.inl ⟨by kernel_rfl, ?_⟩) hHeld ?_
              rotate_left
              · intro w hSw; obtain ⟨s0, s1, s2, s3, s4, sg, y0, y1, y2, y3, y4, u0, u1⟩ := hSw; go_simp; try with_reducible rfl
              try simp only [Act.put, List.setIfInBounds_toArray, List.set_cons_zero, List.set_cons_succ]
              refine wpAnyH_takeD (i := 24) 105 (v := ?_) rfl rfl (by kernel_rfl) (by kernel_rfl) (by kernel_rfl) hPF (Or.inl ⟨by kernel_rfl, ?_⟩) hHeld ?_
              rotate_left
              · intro w hSw; obtain ⟨s0, s1, s2, s3, s4, sg, y0, y1, y2, y3, y4, u0, u1⟩ := hSw; go_simp; try with_reducible rfl
              try simp only [Act.put, List.setIfInBounds_toArray, List.set_cons_zero, List.set_cons_succ]
              refine wpAnyH_takeD (i := 25) 106 (v := ?_) rfl rfl (by kernel_rfl) (by kernel_rfl) (by kernel_rfl) hPF (Or.inl ⟨by kernel_rfl, ?_⟩) hHeld ?_
              rotate_left
              · intro w hSw; obtain ⟨s0, s1, s2, s3, s4, sg, y0, y1, y2, y3, y4, u0, u1⟩ := hSw; go_simp; try with_reducible rfl
              try simp only [Act.put, List.setIfInBounds_toArray, List.set_cons_zero, List.set_cons_succ]
              refine wpAnyH_takeD (i := 26) 107 (v := ?_) rfl rfl (by kernel_rfl) (by kernel_rfl) (by kernel_rfl) hPF (Or.inl ⟨by kernel_rfl, ?_⟩) hHeld ?_
              rotate_left
              · intro w hSw; obtain ⟨s0, s1, s2, s3, s4, sg, y0, y1, y2, y3, y4, u0, u1⟩ := hSw; go_simp; try with_reducible rfl
              try simp only [Act.put, List.setIfInBounds_toArray, List.set_cons_zero, List.set_cons_succ]
              refine wpAnyH_takeD (i := 27) 108 (v := ?_) rfl rfl (by kernel_rfl) (by kernel_rfl) (by kernel_rfl) hPF (Or.inl ⟨by kernel_rfl, ?_⟩) hHeld ?_
              rotate_left
              · intro w hSw; obtain ⟨s0, s1, s2, s3, s4, sg, y0, y1, y2, y3, y4, u0, u1⟩ := hSw; go_simp; try with_reducible rfl
              try simp only [Act.put, List.setIfInBounds_toArray, List.set_cons_zero, List.set_cons_succ]
              refine wpAnyH_takeD (i := 28) 109 (v := ?_) rfl rfl (by kernel_rfl) (by kernel_rfl) (by kernel_rfl) hPF (Or.inl ⟨by kernel_rfl, ?_⟩) hHeld ?_
              rotate_left
              · intro w hSw; obtain ⟨s0, s1, s2, s3, s4, sg, y0, y1, y2, y3, y4, u0, u1⟩ := hSw; go_simp; try with_reducible rfl
              try simp only [Act.put, List.setIfInBounds_toArray, List.set_cons_zero, List.set_cons_succ]
              refine wpAnyH_takeD (i := 29) 110 (v := ?_) rfl rfl (by kernel_rfl) (by kernel_rfl) (by kernel_rfl) hPF (Or.inl ⟨by kernel_rfl, ?_⟩) hHeld ?_
              rotate_left
              · intro w hSw; obtain ⟨s0, s1, s2, s3, s4, sg, y0, y1, y2, y3, y4, u0, u1⟩ := hSw; go_simp; try with_reducible rfl
              try simp only [Act.put, List.setIfInBounds_toArray, List.set_cons_zero, List.set_cons_succ]
              refine wpAnyH_takeD (i := 30) 111 (v := ?_) rfl rfl (by kernel_rfl) (by kernel_rfl) (by kernel_rfl) hPF (Or.inl ⟨by kernel_rfl, ?_⟩) hHeld ?_
              rotate_left
              · intro w hSw; obtain ⟨s0, s1, s2, s3, s4, sg, y0, y1, y2, y3, y4, u0, u1⟩ := hSw; go_simp; try with_reducible rfl
              try simp only [Act.put, List.setIfInBounds_toArray, List.set_cons_zero, List.set_cons_succ]
              refine wpAnyH_takeD (i := 31) 112 (v := ?_) rfl rfl (by kernel_rfl) (by kernel_rfl) (by kernel_rfl) hPF (Or.inl ⟨by kernel_rfl, ?_⟩) hHeld ?_
              rotate_left
              · intro w hSw; obtain ⟨s0, s1, s2, s3, s4, sg, y0, y1, y2, y3, y4, u0, u1⟩ := hSw; go_simp; try with_reducible rfl
              try simp only [Act.put, List.setIfInBounds_toArray, List.set_cons_zero, List.set_cons_succ]
              refine wpAnyH_takeD (i := 32) 113 (v := ?_) rfl rfl (by kernel_rfl) (by kernel_rfl) (by kernel_rfl) hPF (Or.inl ⟨by kernel_rfl, ?_⟩) hHeld ?_
              rotate_left
              · intro w hSw; obtain ⟨s0, s1, s2, s3, s4, sg, y0, y1, y2, y3, y4, u0, u1⟩ := hSw; go_simp; try with_reducible rfl
              try simp only [Act.put, List.setIfInBounds_toArray, List.set_cons_zero, List.set_cons_succ]
              refine wpAnyH_takeD (i := 33) 114 (v := ?_) rfl rfl (by kernel_rfl) (by kernel_rfl) (by kernel_rfl) hPF (Or.inl ⟨by kernel_rfl, ?_⟩) hHeld ?_
              rotate_left
              · intro w hSw; obtain ⟨s0, s1, s2, s3, s4, sg, y0, y1, y2, y3, y4, u0, u1⟩ := hSw; go_simp; try with_reducible rfl
              try simp only [Act.put, List.setIfInBounds_toArray, List.set_cons_zero, List.set_cons_succ]
              refine wpAnyH_takeD (i := 34) 115 (v := ?_) rfl rfl (by kernel_rfl) (by kernel_rfl) (by kernel_rfl) hPF (Or.inl ⟨by kernel_rfl, ?_⟩) hHeld ?_
              rotate_left
              · intro w hSw; obtain ⟨s0, s1, s2, s3, s4, sg, y0, y1, y2, y3, y4, u0, u1⟩ := hSw; go_simp; try with_reducible rfl
              try simp only [Act.put, List.setIfInBounds_toArray, List.set_cons_zero, List.set_cons_succ]
              refine wpAnyH_takeD (i := 35) 116 (v := ?_) rfl rfl (by kernel_rfl) (by kernel_rfl) (by kernel_rfl) hPF (Or.inl ⟨by kernel_rfl, ?_⟩) hHeld ?_
              rotate_left
              · intro w hSw; obtain ⟨s0, s1, s2, s3, s4, sg, y0, y1, y2, y3, y4, u0, u1⟩ := hSw; go_simp; try with_reducible rfl
              try simp only [Act.put, List.setIfInBounds_toArray, List.set_cons_zero, List.set_cons_succ]
              refine wpAnyH_takeD (i := 36) 117 (v := ?_) rfl rfl (by kernel_rfl) (by kernel_rfl) (by kernel_rfl) hPF (Or.inl ⟨by kernel_rfl, ?_⟩) hHeld ?_
              rotate_left
              · intro w hSw; obtain ⟨s0, s1, s2, s3, s4, sg, y0, y1, y2, y3, y4, u0, u1⟩ := hSw; go_simp; try with_reducible rfl
              try simp only [Act.put, List.setIfInBounds_toArray, List.set_cons_zero, List.set_cons_succ]
              refine wpAnyH_takeD (i := 37) 118 (v := ?_) rfl rfl (by kernel_rfl) (by kernel_rfl) (by kernel_rfl) hPF (Or.inl ⟨by kernel_rfl, ?_⟩) hHeld ?_
              rotate_left
              · intro w hSw; obtain ⟨s0, s1, s2, s3, s4, sg, y0, y1, y2, y3, y4, u0, u1⟩ := hSw; go_simp; try with_reducible rfl
              try simp only [Act.put, List.setIfInBounds_toArray, List.set_cons_zero, List.set_cons_succ]
              refine wpAnyH_takeD (i := 38) 119 (v := ?_) rfl rfl (by kernel_rfl) (by kernel_rfl) (by kernel_rfl) hPF (Or.inl ⟨by kernel_rfl, ?_⟩) hHeld ?_
              rotate_left
              · intro w hSw; obtain ⟨s0, s1, s2, s3, s4, sg, y0, y1, y2, y3, y4, u0, u1⟩ := hSw; go_simp; try with_reducible rfl
              try simp only [Act.put, List.setIfInBounds_toArray, List.set_cons_zero, List.set_cons_succ]
              refine wpAnyH_takeD (i := 39) 120 (v := ?_) rfl rfl (by kernel_rfl) (by kernel_rfl) (by kernel_rfl) hPF (Or.inl ⟨by kernel_rfl, ?_⟩) hHeld ?_
              rotate_left
              · intro w hSw; obtain ⟨s0, s1, s2, s3, s4, sg, y0, y1, y2, y3, y4, u0, u1⟩ := hSw; go_simp; try with_reducible rfl
              try simp only [Act.put, List.setIfInBounds_toArray, List.set_cons_zero, List.set_cons_succ]
              refine wpAnyH_takeD (i := 40) 121 (v := ?_) rfl rfl (by kernel_rfl) (by kernel_rfl) (by kernel_rfl) hPF (Or.inl ⟨by kernel_rfl, ?_⟩) hHeld ?_
              rotate_left
              · intro w hSw; obtain ⟨s0, s1, s2, s3, s4, sg, y0, y1, y2, y3, y4, u0, u1⟩ := hSw; go_simp; try with_reducible rfl
              try simp only [Act.put, List.setIfInBounds_toArray, List.set_cons_zero, List.set_cons_succ]
              refine wpAnyH_takeD (i := 41) 122 (v := ?_) rfl rfl (by kernel_rfl) (by kernel_rfl) (by kernel_rfl) hPF (Or.inl ⟨by kernel_rfl, ?_⟩) hHeld ?_
              rotate_left
              · intro w hSw; obtain ⟨s0, s1, s2, s3, s4, sg, y0, y1, y2, y3, y4, u0, u1⟩ := hSw; go_simp; try with_reducible rfl
              try simp only [Act.put, List.setIfInBounds_toArray, List.set_cons_zero, List.set_cons_succ]
              refine wpAnyH_takeD (i := 42) 123 (v := ?_) rfl rfl (by kernel_rfl) (by kernel_rfl) (by kernel_rfl) hPF (Or.inl ⟨by kernel_rfl, ?_⟩) hHeld ?_
              rotate_left
              · intro w hSw; obtain ⟨s0, s1, s2, s3, s4, sg, y0, y1, y2, y3, y4, u0, u1⟩ := hSw; go_simp; try with_reducible rfl
              try simp only [Act.put, List.setIfInBounds_toArray, List.set_cons_zero, List.set_cons_succ]
              refine wpAnyH_takeD (i := 43) 124 (v := ?_) rfl rfl (by kernel_rfl) (by kernel_rfl) (by kernel_rfl) hPF (Or.inl ⟨by kernel_rfl, ?_⟩) hHeld ?_
              rotate_left
              · intro w hSw; obtain ⟨s0, s1, s2, s3, s4, sg, y0, y1, y2, y3, y4, u0, u1⟩ := hSw; go_simp; try with_reducible rfl
              try simp only [Act.put, List.setIfInBounds_toArray, List.set_cons_zero, List.set_cons_succ]
              refine wpAnyH_takeD (i := 44) 125 (v := ?_) rfl rfl (by kernel_rfl) (by kernel_rfl) (by kernel_rfl) hPF (Or.inl ⟨by kernel_rfl, ?_⟩) hHeld ?_
              rotate_left
              · intro w hSw; obtain ⟨s0, s1, s2, s3, s4, sg, y0, y1, y2, y3, y4, u0, u1⟩ := hSw; go_simp; try with_reducible rfl
              try simp only [Act.put, List.setIfInBounds_toArray, List.set_cons_zero, List.set_cons_succ]
              refine wpAnyH_takeD (i := 45) 126 (v := ?_) rfl rfl (by kernel_rfl) (by kernel_rfl) (by kernel_rfl) hPF (Or.inl ⟨by kernel_rfl, ?_⟩) hHeld ?_
              rotate_left
              · intro w hSw; obtain ⟨s0, s1, s2, s3, s4, sg, y0, y1, y2, y3, y4, u0, u1⟩ := hSw; go_simp; try with_reducible rfl
              try simp only [Act.put, List.setIfInBounds_toArray, List.set_cons_zero, List.set_cons_succ]
              refine wpAnyH_takeD (i := 46) 127 (v := ?_) rfl rfl (by kernel_rfl) (by kernel_rfl) (by kernel_rfl) hPF (Or.inl ⟨by kernel_rfl, ?_⟩) hHeld ?_
              rotate_left
              · intro w hSw; obtain ⟨s0, s1, s2, s3, s4, sg, y0, y1, y2, y3, y4, u0, u1⟩ := hSw; go_simp; try with_reducible rfl
              try simp only [Act.put, List.setIfInBounds_toArray, List.set_cons_zero, List.set_cons_succ]
              refine wpAnyH_takeD (i := 47) 128 (v := ?_) rfl rfl (by kernel_rfl) (by kernel_rfl) (by kernel_rfl) hPF (Or.inl ⟨by kernel_rfl, ?_⟩) hHeld ?_
              rotate_left
              · intro w hSw; obtain ⟨s0, s1, s2, s3, s4, sg, y0, y1, y2, y3, y4, u0, u1⟩ := hSw; go_simp; try with_reducible rfl
              try simp only [Act.put, List.setIfInBounds_toArray, List.set_cons_zero, List.set_cons_succ]
              refine wpAnyH_takeD (i := 48) 129 (v := ?_) rfl rfl (by kernel_rfl) (by kernel_rfl) (by kernel_rfl) hPF (Or.inl ⟨by kernel_rfl, ?_⟩) hHeld ?_
              rotate_left
              · intro w hSw; obtain ⟨s0, s1, s2, s3, s4, sg, y0, y1, y2, y3, y4, u0, u1⟩ := hSw; go_simp; try with_reducible rfl
              try simp only [Act.put, List.setIfInBounds_toArray, List.set_cons_zero, List.set_cons_succ]
              refine wpAnyH_takeD (i := 49) 130 (v := ?_) rfl rfl (by kernel_rfl) (by kernel_rfl) (by kernel_rfl) hPF (Or.inl ⟨by kernel_rfl, ?_⟩) hHeld ?_
              rotate_left
              · intro w hSw; obtain ⟨s0, s1, s2, s3, s4, sg, y0, y1, y2, y3, y4, u0, u1⟩ := hSw; go_simp; try with_reducible rfl
              try simp only [Act.put, List.setIfInBounds_toArray, List.set_cons_zero, List.set_cons_succ]
              refine wpAnyH_done (by kernel_rfl) ?_ _
              have HI2 := Lib.hid (show wrap64 ((ip : Int) + 1 + 1) = (ip : Int) + 1 + 1 from IntWalk.wrap64_in _ (by have := HM.out; have := HLI.out; omega))
              go_wp2_with fail
              go_roundw
              case rel =>
                rw [HI2.out]
                exact ⟨ip + 1 + 1, HLI.out, by rw [Int.natCast_add, Int.natCast_add]; rfl, HB5.out.drew |> Lib.hid⟩
              case measure =>
                rw [HI2.out]
                show m - ((ip : Int) + 1 + 1).toNat < m - ((ip + 1 : Nat) : Int).toNat
                have := HLI.out
                omega
        · obtain rfl : m = i := by omega
          clear hi hit
          have HBQ := Lib.hid (HB4.out.trans (HQ.out.mono HB4.out.size))
          have hblk := ((HD4.out.keep (below_touch HQ.out noF) (fun _ h => h.elim)).blk)
          rw [HR.out.2.2.2] at hblk
          have HGM := Lib.hid (show ∀ V : World, Below wr.heap.size wr V → V.cell? ⟨w3.heap.size, 0, none⟩ = some (.slice Am m cm') from fun V hV => (hblk.below hV hblk.lt).cell 0)
          clear hblk
          go_wp2_with fail
          refine (H.age0 wr 1).mono ?_
          rintro e w6 ⟨rfl, b6⟩
          have HB6 := Lib.hid b6
          clear b6
          go_wp2_with fail
          refine (H.flush0 w6 1).mono ?_
          rintro e w7 ⟨rfl, b7⟩
          have HB7 := Lib.hid (HB6.out.trans (b7.mono HB6.out.size))
          have s0 := HGM.out w7 HB7.out
          clear b7
          go_wp2_with fail
          refine (H.learn0 _ 1 1 1 1).mono ?_
          rintro e v1 ⟨rfl, b1⟩
          have B1 := Lib.hid (HB7.out.trans (b1.mono HB7.out.size))
          clear b1 s0
          go_wp2_with fail
          refine (H.fix0 _ 1 1 1).mono ?_
          rintro e v2 ⟨rfl, b2⟩
          have B2 := Lib.hid (B1.out.trans (b2.mono B1.out.size))
          clear b2
          go_wp2_with fail
          refine (H.drop0 _ 1 1).mono ?_
          rintro e v3 ⟨rfl, b3⟩
          have B3 := Lib.hid (B2.out.trans (b3.mono B2.out.size))
          clear b3
          go_wp2_with fail
          refine (H.find0 _ 1 1).mono ?_
          rintro e v4 ⟨rfl, b4⟩
          have B4 := Lib.hid (B3.out.trans (b4.mono B3.out.size))
          clear b4
          go_wp2_with fail
          refine (H.all0 _).mono ?_
          rintro e v5 ⟨A5, c5, rfl, b5⟩
          have B5 := Lib.hid (B4.out.trans (b5.mono B4.out.size))
          clear b5
          go_wp2_with fail
          refine (H.fails0 _).mono ?_
          rintro e v6 ⟨rfl, b6⟩
          have B6 := Lib.hid (B5.out.trans (b6.mono B5.out.size))
          clear b6
          have HE := Lib.hid (HBQ.out.trans (B6.out.mono HBQ.out.size))
          go_wp2_with fail
          go_ret
          exact ⟨rfl, HE.out⟩
end
end Go.Proofs.Ytocahiifeckogaa
