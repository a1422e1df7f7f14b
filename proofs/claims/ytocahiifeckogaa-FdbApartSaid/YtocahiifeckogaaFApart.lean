/- The statement FdbApart: what is known of one network doesn't hang on others, as long as there is room. Its condition: the program's contracts. -/
import Derived.Test.YtocahiifeckogaaFBound
import Derived.Test.YtocahiifeckogaaFbApart
import Derived.Deep.RegionHeld3
namespace Go.Proofs.Ytocahiifeckogaa
open Go.RowKit
set_option maxRecDepth 100000

section
variable {Pt : World → Nat → (Nat → Prop) → Nat → Dt → Prop}
set_option maxHeartbeats 8000000 in
theorem walkApart (H : FdbIs Pt) (A : Option Addr) (c : Nat) (l : List Kc) (vid : Int) (w : World) (hA : KcAt w w.heap.size A l) (hl : l.length ≤ maxLen) :
    Calls Try.prog 5 #[.slice A l.length c, .int .i64 vid] w fun e w' => e = .returned (.bool true) ∧ Below w.heap.size w w' := by
  obtain ⟨n, hn⟩ : ∃ n, l.length = n := ⟨_, rfl⟩
  have HG := Lib.hid (fun (V : World) (hV : Below w.heap.size w V) => great_any A c l V (fun k hk => by
    obtain ⟨b, off, e, hl, hc⟩ := hA.below hV k hk
    exact ⟨b, off, e, Nat.lt_of_lt_of_le hl hV.size, hc⟩) hl)
  have HA := Lib.hid hA
  have HN := Lib.hid hn
  rw [hn] at HG ⊢
  clear hA hl hn
  go_enter Try.func5, Try.ntmps5
  go_wp2_with fail
  refine (falive_any H _).mono ?_
  rintro e w1 ⟨rfl, b1⟩
  have HB1 := Lib.hid b1
  have HG1 := Lib.hid (HG.out w1 b1)
  clear b1
  go_wp2_with fail
  refine HG1.out.mono ?_
  rintro e w2 ⟨(rfl | ⟨rfl, h120, hok⟩), b2⟩
  · have HE := Lib.hid (HB1.out.trans (b2.mono HB1.out.size))
    clear b2
    go_wp2_with fail
    go_ret
    exact ⟨rfl, HE.out⟩
  have HB2 := Lib.hid (HB1.out.trans (b2.mono HB1.out.size))
  have HOK := Lib.hid (And.intro h120 hok)
  clear b2 h120 hok
  have HNE := Lib.hid (H.new w2 w.heap.size HB2.out.size)
  go_wp2_with fail
  refine HNE.out.mono ?_
  rintro e w3 ⟨g, rfl, b3, p3⟩
  have HB3 := Lib.hid (HB2.out.trans (b3.mono HB2.out.size))
  have HP3 := Lib.hid p3
  have HNE2 := Lib.hid (H.new w3 w.heap.size HB3.out.size)
  clear b3 p3
  go_wp2_with fail
  refine HNE2.out.mono ?_
  rintro e w4 ⟨gu, rfl, b4, p4⟩
  have HT0 := Lib.hid (trio_new H HP3.out b4 p4)
  have HB4 := Lib.hid (HB3.out.trans (b4.mono HB3.out.size))
  clear b4 p4
  go_wp2_with fail
  go_loopw [20] (fun iv wr => ∃ j : Nat, j ≤ n ∧ iv = .int .i64 j ∧ Hid (ApR Pt w vid g gu w4.heap.size wr)) (fun iv _ => n - (intOf iv).toNat)
  case atStart =>
    obtain ⟨Fu, hT⟩ := HT0.out
    exact ⟨0, Nat.zero_le _, rfl, Lib.hid ⟨_, Fu, _, _, _, _, _, _, hT, rel_nil, part_nil vid, few_nil 0, few_nil 0, by show (0 : Nat) < 24; omega, HB4.out.trans ((bel_alloc w4 _).mono HB4.out.size)⟩⟩
  case round =>
    obtain ⟨j, hj, rfl, HS⟩ := hrel
    by_cases hlt : j < n
    · have j1 : (j : Int) < n := by omega
      have j0 : (0 : Int) ≤ j := by omega
      have HLT := Lib.hid hlt
      have HJ := Lib.hid (show wrap64 ((j : Int) + 1) = (j : Int) + 1 from IntWalk.wrap64_in _ (by have := HOK.out.1; have := HN.out; omega))
      obtain ⟨Ft, Fu, Fm, s, u, d, Am, cm', hT, hrl, hpa, hf, hfu, h24, hb⟩ := HS.out
      obtain ⟨b, off, eA, hbl, hc⟩ := HA.out j (by rw [HN.out]; exact hlt)
      have hc := hc.below hb hbl
      have hok := HOK.out.2 j hlt
      obtain ⟨x, hx⟩ : ∃ x, l.getD j kc0 = x := ⟨_, rfl⟩
      rw [hx] at hc hok
      obtain ⟨q0, q1, q2, q3, q4⟩ := hc
      have bx := bel_alloc wr (.cells x.cells.toArray 32)
      have kx := Blk.new wr 32 x.cells.toArray
      have hT1 := hT.below H bx
      have hdo := does_any H hT1.pt hT1.dm hT1.tm hrl.srt hf (by have := hrl.perm.length_eq; omega) x hok
      have HDO := Lib.hid hdo
      have HT1 := Lib.hid hT1
      have HLO := Lib.hid (And.intro (H.lo hT.pt).2 (And.intro (H.lo hT.pu).2 hT.dm.lo))
      have HFL := Lib.hid (And.intro (hb.trans (bx.mono hb.size)) (And.intro (hrl.does x) (And.intro hpa (And.intro (hf.does hok) (And.intro (fun (hx : x.v = vid ∨ 2 < x.k) => Part.does hpa h24 hx) (And.intro (fun (hx : ¬ (x.v = vid ∨ 2 < x.k)) => Part.does_other hpa h24 hx) (And.intro (hfu.does hok) (And.intro hpa.srt2 (And.intro hfu hok)))))))))
      have HSZ := Lib.hid (show w.heap.size ≤ wr.heap.size from hb.size)
      have HKX := Lib.hid kx
      obtain ⟨ck, cv, cm, cp, cn⟩ := x
      subst eA
      clear hj hlt hbl hx hok bx kx hdo hT hT1 hrl hpa hf hfu h24 hb
      go_wp2_with fail
      refine HDO.out.mono ?_
      rintro e w5 ⟨rfl, hbo⟩
      obtain ⟨Ft', Fm', A', c', hT2, t5⟩ := HT1.out.first H hbo
      have hk5 := (show Blk _ wr.heap.size 32 #[.int .i64 ck, .int .i64 cv, .int .i64 cm, .int .i64 cp, .int .i64 cn] from HKX.out).touch t5 (by
        rintro (q | q)
        · have := (HLO.out.1 _ q).2; omega
        · have := (HLO.out.2.2 _ q).2; omega)
      obtain ⟨z0, z1, z2, z3, z4⟩ := (show w5.cell? ⟨wr.heap.size, 0, none⟩ = some (.int .i64 ck) ∧ w5.cell? ⟨wr.heap.size, 1, none⟩ = some (.int .i64 cv) ∧ w5.cell? ⟨wr.heap.size, 2, none⟩ = some (.int .i64 cm) ∧ w5.cell? ⟨wr.heap.size, 3, none⟩ = some (.int .i64 cp) ∧ w5.cell? ⟨wr.heap.size, 4, none⟩ = some (.int .i64 cn) from ⟨hk5.cell 0, hk5.cell 1, hk5.cell 2, hk5.cell 3, hk5.cell 4⟩)
      have HK5 := Lib.hid hk5
      have HT2 := Lib.hid hT2
      have HB5 := Lib.hid (HFL.out.1.trans (t5.below HFL.out.1.size (by
        rintro k (q | q)
        · exact (HLO.out.1 k q).1
        · exact (HLO.out.2.2 k q).1)))
      clear hbo hT2 t5 hk5
      by_cases hv : cv = vid
      · have hvb : (cv == vid) = true := by simpa using hv
        have LTX := Lib.hid HK5.out.lt
        have PX0 := HFL.out.2.2.2.2.1 (.inl hv)

        have bx6 := bel_alloc w5 (.cells #[.slice none 0 0, .int .i64 0] 30)
        have hT6 := HT2.out.below H bx6
        have hd6 := dt_new w5 w.heap.size HB5.out.size
        have hdo6 := does_any H hT6.pu hd6 (fun q hq e => by
          have h1 := ((H.lo HT2.out.pu).2 q hq).2
          have h2 : q = w5.heap.size := e
          omega) HFL.out.2.2.2.2.2.2.2.1 HFL.out.2.2.2.2.2.2.2.2.1 (Nat.zero_le _) ⟨ck, cv, cm, cp, cn⟩ HFL.out.2.2.2.2.2.2.2.2.2
        have HDO6 := Lib.hid hdo6
        have HB6 := Lib.hid bx6
        have hk6 := HK5.out.below bx6 HK5.out.lt
        obtain ⟨y0, y1, y2, y3, y4⟩ := (show (w5.alloc (.cells #[.slice none 0 0, .int .i64 0] 30)).cell? ⟨wr.heap.size, 0, none⟩ = some (.int .i64 ck) ∧ (w5.alloc (.cells #[.slice none 0 0, .int .i64 0] 30)).cell? ⟨wr.heap.size, 1, none⟩ = some (.int .i64 cv) ∧ (w5.alloc (.cells #[.slice none 0 0, .int .i64 0] 30)).cell? ⟨wr.heap.size, 2, none⟩ = some (.int .i64 cm) ∧ (w5.alloc (.cells #[.slice none 0 0, .int .i64 0] 30)).cell? ⟨wr.heap.size, 3, none⟩ = some (.int .i64 cp) ∧ (w5.alloc (.cells #[.slice none 0 0, .int .i64 0] 30)).cell? ⟨wr.heap.size, 4, none⟩ = some (.int .i64 cn) from ⟨hk6.cell 0, hk6.cell 1, hk6.cell 2, hk6.cell 3, hk6.cell 4⟩)
        have PX := Lib.hid PX0
        have LT6 := Lib.hid bx6.size
        clear hv
        clear bx6 hT6 hd6 hdo6 hk6 PX0
        go_wp2_with fail
        refine HDO6.out.mono ?_
        rintro e w6 ⟨rfl, hbo⟩
        obtain ⟨Fu', hT7, t6⟩ := HT2.out.second H HB6.out rfl hbo
        have hk7 := HK5.out.touch t6 (by
          rintro (q | q)
          · have := (HLO.out.2.1 _ q).2; omega
          · have := HK5.out.lt; omega)
        have KX := Lib.hid (show w6.cell? ⟨wr.heap.size, 2, none⟩ = some (.int .i64 cm) from hk7.cell 2)
        have TR := Lib.hid hT7
        have BX := Lib.hid (HB5.out.trans (t6.below HB5.out.size (by
          rintro k (q | q)
          · exact (HLO.out.2.1 k q).1
          · exact Nat.le_trans HB5.out.size q)))
        have FX := Lib.hid HFL.out.2.2.2.2.2.2.1
        have LT7 := Lib.hid hT7.dm.blk.lt
        have LTS := Lib.hid t6.size
        clear z0 z1 z2 z3 z4 y0 y1 y2 y3 y4 hbo hT7 t6 hk7
        obtain ⟨m5, hm5⟩ : ∃ k, (doesD d ⟨ck, cv, cm, cp, cn⟩).l.length = k := ⟨_, rfl⟩
        have hln := HFL.out.2.1.perm.length_eq
        rw [hm5] at hln
        have HLN := Lib.hid hln
        have hbk := TR.out.dm.blk
        rw [hm5] at hbk
        have x0 : w6.cell? ⟨w4.heap.size, 0, none⟩ = some (.slice A' m5 c') := hbk.cell 0
        have HM := Lib.hid (show m5 ≤ 24 from by have := HFL.out.2.2.2.1.len; omega)
        clear hln hbk hm5
        by_cases h24 : 24 ≤ m5
        · have h24i : (24 : Int) ≤ m5 := by omega
          have HV := Lib.hid h24
          go_wp2_with fail
          go_ret
          exact ⟨rfl, BX.out⟩
        · have h24i : ¬ (24 : Int) ≤ m5 := by omega
          have HV := Lib.hid h24
          obtain ⟨a, ha⟩ : ∃ a, findS (doesS s ⟨ck, cv, cm, cp, cn⟩).l vid cm = a := ⟨_, rfl⟩
          have HAA := Lib.hid ha
          have ha2 : findS (doesS u ⟨ck, cv, cm, cp, cn⟩).l vid cm = a := (PX.out.find cm).symm.trans ha
          have hft : ∀ V : World, Below w6.heap.size w6 V → Calls Try.prog 12 #[.pointer (some ⟨g, 0, none⟩), .int .i64 vid, .int .i64 cm] V fun e w' => e = .returned (.int .i64 a) ∧ Below V.heap.size V w' := fun V hV => by
            rw [← ha]
            exact H.find vid cm (TR.out.below H hV).pt HFL.out.2.1.srt HFL.out.2.2.2.1
          have hfu : ∀ V : World, Below w6.heap.size w6 V → Calls Try.prog 12 #[.pointer (some ⟨gu, 0, none⟩), .int .i64 vid, .int .i64 cm] V fun e w' => e = .returned (.int .i64 a) ∧ Below V.heap.size V w' := fun V hV => by
            rw [← ha2]
            exact H.find vid cm (TR.out.below H hV).pu PX.out.srt2 FX.out
          have BR := Lib.hid (Below.refl w6.heap.size w6)
          have HFT := Lib.hid (hft _ (show Below w6.heap.size w6 (w6.drew) from BR.out.drew))
          have HFU := Lib.hid hfu
          have KW := Lib.hid (show ∀ V : World, Below w6.heap.size w6 V → V.cell? ⟨wr.heap.size, 2, none⟩ = some (.int .i64 cm) from fun V hV => (hV.cell (p := ⟨wr.heap.size, 2, none⟩) (Nat.lt_of_lt_of_le LTX.out LTS.out)).trans KX.out)
          have s0 := KW.out _ (show Below w6.heap.size w6 (w6.drew) from BR.out.drew)
          have HGG := Lib.hid (show ¬ (g = gu) from fun e => TR.out.tu g (H.lo TR.out.pt).1 (e ▸ (H.lo TR.out.pu).1))
          clear h24 ha ha2 hft hfu
          go_wp2_with fail
          go_region_held3 (fun w' => w'.cell? ⟨wr.heap.size, 2, none⟩ = some (.int .i64 cm))
            (first
              | (with_reducible exact s0)
              | (with_reducible exact s1)
              | (with_reducible exact s2)
              | fail)
            (first
              | (go_at_call 12; (with_reducible (refine HFT.out.mono ?_)); rintro e w7 ⟨rfl, b7⟩; have B7 := Lib.hid (show Below w6.heap.size w6 w7 from (show Below w6.heap.size w6 (w6.drew) from BR.out.drew).trans b7); have s1 := KW.out w7 B7.out; have HF2 := Lib.hid (HFU.out w7 B7.out))
              | (go_at_call 12; (with_reducible (refine HF2.out.mono ?_)); rintro e w8 ⟨rfl, b8⟩; have B8 := Lib.hid (show Below w6.heap.size w6 w8 from B7.out.trans (b8.mono B7.out.size)); have s2 := KW.out w8 B8.out))
          have HE := Lib.hid (show ApR Pt w vid g gu w4.heap.size w8 from ⟨_, _, _, _, _, _, _, _, TR.out.below H B8.out, HFL.out.2.1, PX.out, HFL.out.2.2.2.1, FX.out, by have := HLN.out; have := HV.out; omega, BX.out.trans (B8.out.mono BX.out.size)⟩)
          clear s0 s1 s2 b7 b8 HF2 B7 B8
          go_wp2_with fail
          go_roundw
          case rel =>
            rw [HJ.out]
            exact ⟨j + 1, HLT.out, by rw [Int.natCast_add]; rfl, HE⟩
          case measure =>
            rw [HJ.out]
            show n - ((j : Int) + 1).toNat < n - ((j : Int)).toNat
            have := HLT.out
            omega
      · have hvb : (cv == vid) = false := by simpa using hv
        by_cases hk : 2 < ck
        · have LTX := Lib.hid HK5.out.lt
          have PX0 := HFL.out.2.2.2.2.1 (.inr hk)

          have bx6 := bel_alloc w5 (.cells #[.slice none 0 0, .int .i64 0] 30)
          have hT6 := HT2.out.below H bx6
          have hd6 := dt_new w5 w.heap.size HB5.out.size
          have hdo6 := does_any H hT6.pu hd6 (fun q hq e => by
            have h1 := ((H.lo HT2.out.pu).2 q hq).2
            have h2 : q = w5.heap.size := e
            omega) HFL.out.2.2.2.2.2.2.2.1 HFL.out.2.2.2.2.2.2.2.2.1 (Nat.zero_le _) ⟨ck, cv, cm, cp, cn⟩ HFL.out.2.2.2.2.2.2.2.2.2
          have HDO6 := Lib.hid hdo6
          have HB6 := Lib.hid bx6
          have hk6 := HK5.out.below bx6 HK5.out.lt
          obtain ⟨y0, y1, y2, y3, y4⟩ := (show (w5.alloc (.cells #[.slice none 0 0, .int .i64 0] 30)).cell? ⟨wr.heap.size, 0, none⟩ = some (.int .i64 ck) ∧ (w5.alloc (.cells #[.slice none 0 0, .int .i64 0] 30)).cell? ⟨wr.heap.size, 1, none⟩ = some (.int .i64 cv) ∧ (w5.alloc (.cells #[.slice none 0 0, .int .i64 0] 30)).cell? ⟨wr.heap.size, 2, none⟩ = some (.int .i64 cm) ∧ (w5.alloc (.cells #[.slice none 0 0, .int .i64 0] 30)).cell? ⟨wr.heap.size, 3, none⟩ = some (.int .i64 cp) ∧ (w5.alloc (.cells #[.slice none 0 0, .int .i64 0] 30)).cell? ⟨wr.heap.size, 4, none⟩ = some (.int .i64 cn) from ⟨hk6.cell 0, hk6.cell 1, hk6.cell 2, hk6.cell 3, hk6.cell 4⟩)
          have PX := Lib.hid PX0
          have LT6 := Lib.hid bx6.size
          clear bx6 hT6 hd6 hdo6 hk6 PX0
          go_wp2_with fail
          refine HDO6.out.mono ?_
          rintro e w6 ⟨rfl, hbo⟩
          obtain ⟨Fu', hT7, t6⟩ := HT2.out.second H HB6.out rfl hbo
          have hk7 := HK5.out.touch t6 (by
            rintro (q | q)
            · have := (HLO.out.2.1 _ q).2; omega
            · have := HK5.out.lt; omega)
          have KX := Lib.hid (show w6.cell? ⟨wr.heap.size, 2, none⟩ = some (.int .i64 cm) from hk7.cell 2)
          have TR := Lib.hid hT7
          have BX := Lib.hid (HB5.out.trans (t6.below HB5.out.size (by
            rintro k (q | q)
            · exact (HLO.out.2.1 k q).1
            · exact Nat.le_trans HB5.out.size q)))
          have FX := Lib.hid HFL.out.2.2.2.2.2.2.1
          have LT7 := Lib.hid hT7.dm.blk.lt
          have LTS := Lib.hid t6.size
          clear z0 z1 z2 z3 z4 y0 y1 y2 y3 y4 hbo hT7 t6 hk7
          obtain ⟨m5, hm5⟩ : ∃ k, (doesD d ⟨ck, cv, cm, cp, cn⟩).l.length = k := ⟨_, rfl⟩
          have hln := HFL.out.2.1.perm.length_eq
          rw [hm5] at hln
          have HLN := Lib.hid hln
          have hbk := TR.out.dm.blk
          rw [hm5] at hbk
          have x0 : w6.cell? ⟨w4.heap.size, 0, none⟩ = some (.slice A' m5 c') := hbk.cell 0
          have HM := Lib.hid (show m5 ≤ 24 from by have := HFL.out.2.2.2.1.len; omega)
          clear hln hbk hm5
          by_cases h24 : 24 ≤ m5
          · have h24i : (24 : Int) ≤ m5 := by omega
            have HV := Lib.hid h24
            go_wp2_with fail
            go_ret
            exact ⟨rfl, BX.out⟩
          · have h24i : ¬ (24 : Int) ≤ m5 := by omega
            have HV := Lib.hid h24
            obtain ⟨a, ha⟩ : ∃ a, findS (doesS s ⟨ck, cv, cm, cp, cn⟩).l vid cm = a := ⟨_, rfl⟩
            have HAA := Lib.hid ha
            have ha2 : findS (doesS u ⟨ck, cv, cm, cp, cn⟩).l vid cm = a := (PX.out.find cm).symm.trans ha
            have hft : ∀ V : World, Below w6.heap.size w6 V → Calls Try.prog 12 #[.pointer (some ⟨g, 0, none⟩), .int .i64 vid, .int .i64 cm] V fun e w' => e = .returned (.int .i64 a) ∧ Below V.heap.size V w' := fun V hV => by
              rw [← ha]
              exact H.find vid cm (TR.out.below H hV).pt HFL.out.2.1.srt HFL.out.2.2.2.1
            have hfu : ∀ V : World, Below w6.heap.size w6 V → Calls Try.prog 12 #[.pointer (some ⟨gu, 0, none⟩), .int .i64 vid, .int .i64 cm] V fun e w' => e = .returned (.int .i64 a) ∧ Below V.heap.size V w' := fun V hV => by
              rw [← ha2]
              exact H.find vid cm (TR.out.below H hV).pu PX.out.srt2 FX.out
            have BR := Lib.hid (Below.refl w6.heap.size w6)
            have HFT := Lib.hid (hft _ (show Below w6.heap.size w6 (w6.drew) from BR.out.drew))
            have HFU := Lib.hid hfu
            have KW := Lib.hid (show ∀ V : World, Below w6.heap.size w6 V → V.cell? ⟨wr.heap.size, 2, none⟩ = some (.int .i64 cm) from fun V hV => (hV.cell (p := ⟨wr.heap.size, 2, none⟩) (Nat.lt_of_lt_of_le LTX.out LTS.out)).trans KX.out)
            have s0 := KW.out _ (show Below w6.heap.size w6 (w6.drew) from BR.out.drew)
            have HGG := Lib.hid (show ¬ (g = gu) from fun e => TR.out.tu g (H.lo TR.out.pt).1 (e ▸ (H.lo TR.out.pu).1))
            clear h24 ha ha2 hft hfu
            go_wp2_with fail
            go_region_held3 (fun w' => w'.cell? ⟨wr.heap.size, 2, none⟩ = some (.int .i64 cm))
              (first
                | (with_reducible exact s0)
                | (with_reducible exact s1)
                | (with_reducible exact s2)
                | fail)
              (first
                | (go_at_call 12; (with_reducible (refine HFT.out.mono ?_)); rintro e w7 ⟨rfl, b7⟩; have B7 := Lib.hid (show Below w6.heap.size w6 w7 from (show Below w6.heap.size w6 (w6.drew) from BR.out.drew).trans b7); have s1 := KW.out w7 B7.out; have HF2 := Lib.hid (HFU.out w7 B7.out))
                | (go_at_call 12; (with_reducible (refine HF2.out.mono ?_)); rintro e w8 ⟨rfl, b8⟩; have B8 := Lib.hid (show Below w6.heap.size w6 w8 from B7.out.trans (b8.mono B7.out.size)); have s2 := KW.out w8 B8.out))
            have HE := Lib.hid (show ApR Pt w vid g gu w4.heap.size w8 from ⟨_, _, _, _, _, _, _, _, TR.out.below H B8.out, HFL.out.2.1, PX.out, HFL.out.2.2.2.1, FX.out, by have := HLN.out; have := HV.out; omega, BX.out.trans (B8.out.mono BX.out.size)⟩)
            clear s0 s1 s2 b7 b8 HF2 B7 B8
            go_wp2_with fail
            go_roundw
            case rel =>
              rw [HJ.out]
              exact ⟨j + 1, HLT.out, by rw [Int.natCast_add]; rfl, HE⟩
            case measure =>
              rw [HJ.out]
              show n - ((j : Int) + 1).toNat < n - ((j : Int)).toNat
              have := HLT.out
              omega
        · have PX := Lib.hid (HFL.out.2.2.2.2.2.1 (fun e => e.elim hv hk))
          have LTX := Lib.hid HK5.out.lt
          have KX := Lib.hid z2
          have TR := HT2
          have BX := HB5
          have FX := Lib.hid HFL.out.2.2.2.2.2.2.2.2.1
          have hki : ¬ ck > 2 := hk
          obtain ⟨m5, hm5⟩ : ∃ k, (doesD d ⟨ck, cv, cm, cp, cn⟩).l.length = k := ⟨_, rfl⟩
          have hln := HFL.out.2.1.perm.length_eq
          rw [hm5] at hln
          have HLN := Lib.hid hln
          have hbk := TR.out.dm.blk
          rw [hm5] at hbk
          have x0 : w5.cell? ⟨w4.heap.size, 0, none⟩ = some (.slice A' m5 c') := hbk.cell 0
          have HM := Lib.hid (show m5 ≤ 24 from by have := HFL.out.2.2.2.1.len; omega)
          clear hln hbk hm5
          by_cases h24 : 24 ≤ m5
          · have h24i : (24 : Int) ≤ m5 := by omega
            have HV := Lib.hid h24
            go_wp2_with fail
            go_ret
            exact ⟨rfl, BX.out⟩
          · have h24i : ¬ (24 : Int) ≤ m5 := by omega
            have HV := Lib.hid h24
            obtain ⟨a, ha⟩ : ∃ a, findS (doesS s ⟨ck, cv, cm, cp, cn⟩).l vid cm = a := ⟨_, rfl⟩
            have HAA := Lib.hid ha
            have ha2 : findS (u).l vid cm = a := (PX.out.find cm).symm.trans ha
            have hft : ∀ V : World, Below w5.heap.size w5 V → Calls Try.prog 12 #[.pointer (some ⟨g, 0, none⟩), .int .i64 vid, .int .i64 cm] V fun e w' => e = .returned (.int .i64 a) ∧ Below V.heap.size V w' := fun V hV => by
              rw [← ha]
              exact H.find vid cm (TR.out.below H hV).pt HFL.out.2.1.srt HFL.out.2.2.2.1
            have hfu : ∀ V : World, Below w5.heap.size w5 V → Calls Try.prog 12 #[.pointer (some ⟨gu, 0, none⟩), .int .i64 vid, .int .i64 cm] V fun e w' => e = .returned (.int .i64 a) ∧ Below V.heap.size V w' := fun V hV => by
              rw [← ha2]
              exact H.find vid cm (TR.out.below H hV).pu PX.out.srt2 FX.out
            have BR := Lib.hid (Below.refl w5.heap.size w5)
            have HFT := Lib.hid (hft _ (show Below w5.heap.size w5 (w5.drew) from BR.out.drew))
            have HFU := Lib.hid hfu
            have KW := Lib.hid (show ∀ V : World, Below w5.heap.size w5 V → V.cell? ⟨wr.heap.size, 2, none⟩ = some (.int .i64 cm) from fun V hV => (hV.cell (p := ⟨wr.heap.size, 2, none⟩) LTX.out).trans KX.out)
            have s0 := KW.out _ (show Below w5.heap.size w5 (w5.drew) from BR.out.drew)
            have HGG := Lib.hid (show ¬ (g = gu) from fun e => TR.out.tu g (H.lo TR.out.pt).1 (e ▸ (H.lo TR.out.pu).1))
            clear h24 ha ha2 hft hfu
            go_wp2_with fail
            go_region_held3 (fun w' => w'.cell? ⟨wr.heap.size, 2, none⟩ = some (.int .i64 cm))
              (first
                | (with_reducible exact s0)
                | (with_reducible exact s1)
                | (with_reducible exact s2)
                | fail)
              (first
                | (go_at_call 12; (with_reducible (refine HFT.out.mono ?_)); rintro e w7 ⟨rfl, b7⟩; have B7 := Lib.hid (show Below w5.heap.size w5 w7 from (show Below w5.heap.size w5 (w5.drew) from BR.out.drew).trans b7); have s1 := KW.out w7 B7.out; have HF2 := Lib.hid (HFU.out w7 B7.out))
                | (go_at_call 12; (with_reducible (refine HF2.out.mono ?_)); rintro e w8 ⟨rfl, b8⟩; have B8 := Lib.hid (show Below w5.heap.size w5 w8 from B7.out.trans (b8.mono B7.out.size)); have s2 := KW.out w8 B8.out))
            have HE := Lib.hid (show ApR Pt w vid g gu w4.heap.size w8 from ⟨_, _, _, _, _, _, _, _, TR.out.below H B8.out, HFL.out.2.1, PX.out, HFL.out.2.2.2.1, FX.out, by have := HLN.out; have := HV.out; omega, BX.out.trans (B8.out.mono BX.out.size)⟩)
            clear s0 s1 s2 b7 b8 HF2 B7 B8
            go_wp2_with fail
            go_roundw
            case rel =>
              rw [HJ.out]
              exact ⟨j + 1, HLT.out, by rw [Int.natCast_add]; rfl, HE⟩
            case measure =>
              rw [HJ.out]
              show n - ((j : Int) + 1).toNat < n - ((j : Int)).toNat
              have := HLT.out
              omega
    · obtain rfl : n = j := by omega
      clear hj hlt
      obtain ⟨Ft, Fu, Fm, s, u, d, Am, cm', hT, hrl, hpa, hf, hfu, h24, hb⟩ := HS.out
      have HE := Lib.hid hb
      clear hT hrl hpa hf hfu h24 hb
      go_wp2_with fail
      go_ret
      exact ⟨rfl, HE.out⟩
end
end Go.Proofs.Ytocahiifeckogaa
