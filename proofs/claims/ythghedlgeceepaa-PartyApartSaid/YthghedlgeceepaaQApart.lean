/- The statement PartyApart: what is known of one attribute doesn't hang on others, as long as there is room. No condition. -/
import Derived.Test.YthghedlgeceepaaPmPair
namespace Go.Proofs.Ythghedlgeceepaa
open Go.ChangeShapes Go.WideShapes Go.ChangeAt Go.RowKit
set_option maxRecDepth 100000

theorem row_list {W : World} {a : Option Addr} {len cap : Nat} {zs : List Int} (h : IsRow .i64 W a len cap zs) : (zs.take len).length = len ∧ (zs.take len = [] ∨ ∃ b off, a = some ⟨b, off, none⟩ ∧ b < W.heap.size ∧ ∀ j, j < (zs.take len).length → W.cell? ⟨b, off + j, none⟩ = some (.int .i64 ((zs.take len).getD j 0))) := by
  have hl : (zs.take len).length = len := by rw [List.length_take]; have := h.len_le; omega
  refine ⟨hl, ?_⟩
  by_cases h0 : len = 0
  · subst h0
    exact .inl rfl
  · obtain ⟨b, off, e, hb, _⟩ := h.at_ (i := 0) (by omega)
    refine .inr ⟨b, off, e, hb, fun j hj => ?_⟩
    rw [hl] at hj
    obtain ⟨b', off', e', _, hc⟩ := h.at_ (i := j) hj
    rw [e] at e'
    injection e' with e'
    injection e' with e1 e2
    subst e1 e2
    rw [hc]
    congr 2
    rw [List.getD_eq_getElem?_getD, List.getD_eq_getElem?_getD, List.getElem?_take, if_pos hj]
theorem row_new {W V : World} {a : Option Addr} {len cap : Nat} {zs : List Int} (h : IsRow .i64 W a len cap zs) (hb : Below W.heap.size W V) : (zs.take len = [] ∨ ∃ b off, a = some ⟨b, off, none⟩ ∧ ∀ j, j < (zs.take len).length → V.cell? ⟨b, off + j, none⟩ = some (.int .i64 ((zs.take len).getD j 0))) := by
  rcases (row_list h).2 with e | ⟨b, off, e, hl, hc⟩
  · exact .inl e
  · exact .inr ⟨b, off, e, fun j hj => (hb.cell (p := ⟨b, off + j, none⟩) hl).trans (hc j hj)⟩
theorem slot_in (k : Int) : 1 ≤ wrap64 (1 + wrap64 ((IntKind.u64.wrap k).tmod 15)) ∧ wrap64 (1 + wrap64 ((IntKind.u64.wrap k).tmod 15)) ≤ 15 := by
  have h0 : 0 ≤ IntKind.u64.wrap k := by
    show 0 ≤ k % (2 ^ 64 : Int)
    omega
  have h1 : 0 ≤ (IntKind.u64.wrap k).tmod 15 ∧ (IntKind.u64.wrap k).tmod 15 < 15 := by
    rw [Int.tmod_eq_emod_of_nonneg h0]
    omega
  rw [IntWalk.wrap64_in ((IntKind.u64.wrap k).tmod 15) (by omega), IntWalk.wrap64_in _ (by omega)]
  omega
theorem eql_at (x a : Int) (w : World) : (binOp .eql 29 (.agg #[.int .i64 1, .int .i64 x]) (.agg #[.int .i64 1, .int .i64 a])).run Try.prog w = .ok (.bool (decide (x = a))) w := by
  by_cases h : x = a
  · subst h
    go_simp
  · go_simp
set_option maxHeartbeats 64000000 in
theorem walkPartyApart (a0 : Option Addr) (len0 cap0 : Nat) (z0 : List Int) (a1 : Option Addr) (cap1 : Nat) (l1 : List Sp) (a : Int) (W : World) (w0 : IsRow .i64 W a0 len0 cap0 z0) (w1 : SpAt W W.heap.size a1 l1 ∧ l1.length ≤ maxLen) (_w2 : (Lit.int .i64 a).wf = true) :
    Calls Try.prog 5 #[.slice a0 len0 cap0, .slice a1 l1.length cap1, .int .i64 a] W fun e W' => e = .returned (.bool true) ∧ Below W.heap.size W W' := by
  have HAL := Lib.hid (palive_any W)
  have HGR := Lib.hid (fun (V : World) (hV : Below W.heap.size W V) => sgreat_any a1 cap1 l1 V (show SpAt V V.heap.size a1 l1 from (w1.1.below hV).more hV.size) w1.2)
  have HR := Lib.hid w0
  have HDA := Lib.hid w1
  have e0 := (row_list w0).1
  obtain ⟨jl, hjl⟩ : ∃ jl, z0.take len0 = jl := ⟨_, rfl⟩
  rw [hjl] at e0
  have HNW := Lib.hid (fun (V : World) (hV : Below W.heap.size W V) (h30 : len0 ≤ 30) => show Calls Try.prog 8 #[.slice a0 len0 cap0] V _ by
    have := row_new HR.out hV
    rw [hjl] at this
    have h2 := pnew_any a0 cap0 jl V this (by omega)
    rw [e0] at h2
    exact h2)
  obtain ⟨n, hn⟩ : ∃ n, l1.length = n := ⟨_, rfl⟩
  have HN := Lib.hid hn
  rw [hn] at HGR ⊢
  have n0 : (0 : Int) ≤ n := by omega
  clear w0 w1 e0 hjl hn
  go_enter Try.func5, Try.ntmps5
  go_wp2_with fail
  refine HAL.out.mono ?_
  rintro e v1 ⟨rfl, b1⟩
  have HG1 := Lib.hid (HGR.out v1 b1)
  have HB1 := Lib.hid b1
  clear b1
  go_wp2_with fail
  refine HG1.out.mono ?_
  rintro e v2 (⟨rfl, b2⟩ | ⟨rfl, hpl, b2⟩)
  · have HE := Lib.hid (HB1.out.trans (b2.mono HB1.out.size))
    clear b2
    go_wp2_with fail
    go_ret
    exact ⟨rfl, HE.out⟩
  have HB2 := Lib.hid (HB1.out.trans (b2.mono HB1.out.size))
  have HPLD := Lib.hid (show n ≤ 60 ∧ Played l1 n by rw [← HN.out]; rw [← HN.out] at hpl; exact hpl)
  clear b2 hpl
  by_cases d0 : 30 < (len0 : Int)
  · go_wp2_with fail
    go_ret
    exact ⟨rfl, HB2.out⟩
  have d0' : (len0 : Int) ≤ 30 := by omega
  have HNW2 := Lib.hid (HNW.out v2 HB2.out (by omega))
  have HNW3 := Lib.hid (fun V hV => HNW.out V hV (by omega))
  clear d0
  by_cases d1 : a < 1
  · go_wp2_with fail
    go_ret
    exact ⟨rfl, HB2.out⟩
  have d1' : 1 ≤ a := by omega
  clear d1
  by_cases d2 : 15 < a
  · go_wp2_with fail
    go_ret
    exact ⟨rfl, HB2.out⟩
  have d2' : a ≤ 15 := by omega
  clear d2
  go_wp2_with fail
  refine HNW2.out.mono ?_
  rintro e v3 ⟨ga, F3, rfl, hp3, b3⟩
  have HB3 := Lib.hid (HB2.out.trans (b3.mono HB2.out.size))
  have HP3 := Lib.hid hp3
  have HNW4 := Lib.hid (HNW3.out v3 HB3.out)
  clear hp3 b3
  go_wp2_with fail
  refine HNW4.out.mono ?_
  rintro e v4 ⟨gb, F4, rfl, hp4, b4⟩
  have HST := Lib.hid (show ApartAt W v4 ga gb jl a 0 from ⟨_, _, F3, F4, ⟨(HP3.out.low HB2.out.size).keep (below_touch b4 fun _ => False) fun _ _ => id, hp4.low HB3.out.size, fun k h1 h2 => by have := (HP3.out.lt k h1).2; have := (hp4.lt k h2).1; omega, HB3.out.trans (b4.mono HB3.out.size)⟩, PyOk.new _ _, apart_new _ _⟩)
  clear hp4 b4
  have HA15 := Lib.hid (And.intro d1' d2')
  clear d1' d2'
  go_wp2_with fail
  go_loopw [9, 38] (fun tv iv wr => ∃ (j : Nat) (T : Int), j ≤ n ∧ iv = .int .i64 j ∧ tv = .int .i64 T ∧ Hid (ApartAt W wr ga gb jl a T ∧ 0 ≤ T ∧ T ≤ 300 * (j : Int))) (fun _ iv _ => n - (intOf iv).toNat)
  case atStart => exact ⟨0, 0, Nat.zero_le _, rfl, rfl, Lib.hid ⟨HST.out, Int.le_refl _, by omega⟩⟩
  case round =>
    obtain ⟨j, T, hj, rfl, rfl, hS⟩ := hrel
    by_cases hlt : j < n
    · have j1 : (j : Int) < n := by omega
      have j0 : (0 : Int) ≤ j := by omega
      have HJJ := Lib.hid (show j < 60 by have := HPLD.out.1; omega)
      have HJ := Lib.hid (show wrap64 ((j : Int) + 1) = (j : Int) + 1 from IntWalk.wrap64_in _ (by have := HPLD.out.1; omega))
      obtain ⟨p, q, Fa, Fb, hpr, hok, hap⟩ := hS.out.1
      obtain ⟨⟨b, off, eA, hbl, hc⟩, _, _⟩ := HDA.out.1 j (by rw [HN.out]; exact hlt)
      have hc := hc.below hpr.bel hbl
      have hpl := HPLD.out.2 j hlt
      obtain ⟨x, hx⟩ : ∃ x, l1.getD j sp0 = x := ⟨_, rfl⟩
      rw [hx] at hc hpl
      obtain ⟨k0, k1, k2, k3, k4, k5, k6, k7, k8, k9⟩ := x
      obtain ⟨q0, q1, q2, q3, q4, q5, q6⟩ := hc
      simp only at hpl q0 q1 q2 q3 q4 q5 q6
      obtain ⟨an, han⟩ : ∃ an, k9.all.length = an := ⟨_, rfl⟩
      obtain ⟨wn, hwn⟩ : ∃ wn, k9.ws.length = wn := ⟨_, rfl⟩
      rw [han] at q5
      rw [hwn] at q6
      have HPL := Lib.hid hpl.1
      have HTT := Lib.hid hS.out.2
      have HLT := Lib.hid hlt
      have hpr1 := hpr.below (bel_alloc wr (.cells #[.int .i64 k0, .int .i64 k1, .int .i64 k2, .int .i64 k3, .bool k4, .slice k5 an k6, .slice k7 wn k8] 34))
      have HP1 := Lib.hid (And.intro hpr1 (And.intro hok hap))
      have HNF0 := Lib.hid (show (∀ k, Fa k → k < wr.heap.size) ∧ (∀ k, Fb k → k < wr.heap.size) from ⟨fun k hk => (hpr.a.lt k hk).2, fun k hk => (hpr.b.lt k hk).2⟩)
      subst eA
      clear hS hx hpl han hwn hlt hpr hpr1 hok hap hbl hj
      obtain ⟨x, hxv⟩ : ∃ x, wrap64 (1 + wrap64 ((IntKind.u64.wrap k2).tmod 15)) = x := ⟨_, rfl⟩
      have HX := Lib.hid (show 1 ≤ x ∧ x ≤ 15 from hxv ▸ slot_in k2)
      obtain ⟨own, hown⟩ : ∃ own, decide (x = a) = own := ⟨_, rfl⟩
      have HEQ : ∀ w, (binOp .eql 29 (.agg #[.int .i64 1, .int .i64 x]) (.agg #[.int .i64 1, .int .i64 a])).run Try.prog w = .ok (.bool own) w := fun w => by rw [← hown]; exact eql_at x a w
      have HOW := Lib.hid hown
      have HHX := Lib.hid hxv
      have hs0 := Blk.new wr 34 #[.int .i64 k0, .int .i64 k1, .int .i64 k2, .int .i64 k3, .bool k4, .slice k5 an k6, .slice k7 wn k8]
      have HS0 := Lib.hid hs0
      have HB0 := Lib.hid (bel_alloc wr (.cells #[.int .i64 k0, .int .i64 k1, .int .i64 k2, .int .i64 k3, .bool k4, .slice k5 an k6, .slice k7 wn k8] 34))
      clear hs0 hown hxv
      go_wp2_with fail
      rw [HHX.out]
      refine (netv_any x _).mono ?_
      rintro e w2 ⟨rfl, b2⟩
      have hb3 := bel_alloc w2 (.cells #[.int .i64 1, .int .i64 x] 29)
      have hO := Blk.new w2 29 #[.int .i64 1, .int .i64 x]
      have hS := (HS0.out.below b2 HS0.out.lt).alloc (.cells #[.int .i64 1, .int .i64 x] 29)
      have hpr3 := (HP1.out.1.below b2).below hb3
      have hlo : wr.heap.size < w2.heap.size := Nat.lt_of_lt_of_le HS0.out.lt b2.size
      obtain ⟨W3, hW3⟩ : ∃ W3, w2.alloc (.cells #[.int .i64 1, .int .i64 x] 29) = W3 := ⟨_, rfl⟩
      rw [hW3] at hO hS hpr3
      have HW3 := Lib.hid hW3
      have HS3 := Lib.hid (And.intro hS (And.intro hO (And.intro hpr3 hlo)))
      have cD : W3.drew.cell? ⟨w2.heap.size, 0, none⟩ = some (.int .i64 1) ∧ W3.drew.cell? ⟨w2.heap.size, 1, none⟩ = some (.int .i64 x) := ⟨hO.cell 0, hO.cell 1⟩
      have HKE := Lib.hid (fun (w6 : World) (b6 : Below W3.drew.heap.size W3.drew w6) => And.intro ((b6.cell (p := ⟨w2.heap.size, 0, none⟩) hO.lt).trans cD.1) ((b6.cell (p := ⟨w2.heap.size, 1, none⟩) hO.lt).trans cD.2))
      have HVV := Lib.hid (netv_any a)
      clear hb3 hO hS hpr3 hlo hW3 b2 HS0
      go_wp2_with fail
      rw [HW3.out]
      go_region_held3 (fun w' => w'.cell? ⟨w2.heap.size, 0, none⟩ = some (.int .i64 1) ∧ w'.cell? ⟨w2.heap.size, 1, none⟩ = some (.int .i64 x))
        (first
          | (with_reducible exact cD)
          | (with_reducible exact cA)
          | fail)
        (first
          | (go_at_call 17; (with_reducible (refine (HVV.out _).mono ?_)); rintro e w4 ⟨rfl, b4⟩; have cA := HKE.out w4 b4))
      have hS4 : Blk w4 wr.heap.size 34 #[.int .i64 k0, .int .i64 k1, .int .i64 k2, .int .i64 k3, .bool k4, .slice k5 an k6, .slice k7 wn k8] := HS3.out.1.drew.below b4 HS3.out.1.lt
      have hO4 : Blk w4 w2.heap.size 29 #[.int .i64 1, .int .i64 x] := HS3.out.2.1.drew.below b4 HS3.out.2.1.lt
      have hb34 : Below W3.heap.size W3 w4 := (Below.refl _ _).drew.trans b4
      have HP4 := Lib.hid (show Pair W w4 ga gb p q jl Fa Fb ∧ PyOk T p ∧ Apart a p q from ⟨HS3.out.2.2.1.below hb34, HP1.out.2⟩)
      have HLO := Lib.hid HS3.out.2.2.2
      have HNF := Lib.hid (show (∀ k, Fa k → k < wr.heap.size) ∧ (∀ k, Fb k → k < wr.heap.size) from HNF0.out)
      have HSO := Lib.hid (And.intro hS4 hO4)
      have x0 := hS4.cell 0
      have x1 := hS4.cell 3
      have x2 := hS4.cell 4
      have x3 := hO4.cell 0
      have x4 := hO4.cell 1
      clear cA cD b4 HKE hS4 hO4 hb34 HVV
      by_cases zk1 : k0 = 1
      · subst zk1
        have HAW := Lib.hid (HP4.out.2.2.wantW HP4.out.2.1 HTT.out.1 HX.out k3 k4)
        obtain ⟨y4, hy4⟩ := HP4.out.1.a
        have HWN := Lib.hid (want_any hy4 HP4.out.2.1 HTT.out.1 HP4.out.1.bel.size 1 x k3 k4)
        clear hy4
        go_wp2_with fail
        refine HWN.out.mono ?_
        rintro e w5 ⟨rfl, hp5, t5⟩
        have HP5 := Lib.hid (HP4.out.1.grow hp5 t5)
        have hS5 := HSO.out.1.touch t5 (fun c => by have := HNF.out.1 _ c; omega)
        have hO5 := HSO.out.2.touch t5 (fun c => by have := HNF.out.1 _ c; have := HLO.out; omega)
        have z1 := hS5.cell 3
        have z2 := hS5.cell 4
        have z3 := hO5.cell 0
        have z4 := hO5.cell 1
        clear hp5 t5 x0 x1 x2 x3 x4 hS5 hO5
        cases own with
        | false =>
          have HF := Lib.hid (show ApartAt W w5 ga gb jl a T from ⟨_, _, _, _, HP5.out, HAW.out.1, HAW.out.2.1 (of_decide_eq_false HOW.out)⟩)
          clear z1 z2 z3 z4
          obtain ⟨p9, q9, Fa9, Fb9, hpr9, hok9, hap9⟩ := HF.out
          have HZ := Lib.hid (And.intro hpr9 (And.intro hok9 hap9))
          have hok9' := hap9.ok hok9
          obtain ⟨y9, hy9⟩ := hpr9.a
          obtain ⟨z9, hz9⟩ := hpr9.b
          have hkn := hap9.known (now := T)
          obtain ⟨bh, hbh⟩ : ∃ bh, hasP p9 1 a = bh := ⟨_, rfl⟩
          obtain ⟨bb, hbb⟩ : ∃ bb, bornP p9 1 a T = bb := ⟨_, rfl⟩
          obtain ⟨bs, hbs⟩ : ∃ bs, saysP p9 1 a = bs := ⟨_, rfl⟩
          have H0p := Lib.hid (fun V hV => phas_any (hy9.below (w' := V) hV) hok9 1 a)
          have H0q := Lib.hid (fun V hV => phas_any (hz9.below (w' := V) hV) hok9' 1 a)
          have H1p := Lib.hid (fun V hV => pborn_any (hy9.below (w' := V) hV) hok9 1 a T)
          have H1q := Lib.hid (fun V hV => pborn_any (hz9.below (w' := V) hV) hok9' 1 a T)
          have H2p := Lib.hid (fun V hV => psays_any (hy9.below (w' := V) hV) hok9 1 a)
          have H2q := Lib.hid (fun V hV => psays_any (hz9.below (w' := V) hV) hok9' 1 a)
          rw [hkn.1] at H0q
          rw [hkn.2.1] at H1q
          rw [hkn.2.2] at H2q
          rw [hbh] at H0p H0q
          rw [hbb] at H1p H1q
          rw [hbs] at H2p H2q
          have n0' : (bh != bh) = false := by simp
          have n1' : (bb != bb) = false := by simp
          have n2' : (bs != bs) = false := by simp
          clear hok9' hy9 hz9 hkn hbh hbb hbs hpr9 hok9 hap9
          go_wp2_with fail
          refine (netv_any a _).mono ?_
          rintro e u1 ⟨rfl, d1⟩
          have D1 := Lib.hid d1
          clear d1
          go_wp2_with fail
          refine (H0p.out _ D1.out).mono ?_
          rintro e u2 ⟨rfl, d2⟩
          have D2 := Lib.hid (D1.out.trans (d2.mono D1.out.size))
          clear d2 D1
          go_wp2_with fail
          refine (netv_any a _).mono ?_
          rintro e u3 ⟨rfl, d3⟩
          have D3 := Lib.hid (D2.out.trans (d3.mono D2.out.size))
          clear d3 D2
          go_wp2_with fail
          refine (H0q.out _ D3.out).mono ?_
          rintro e u4 ⟨rfl, d4⟩
          have D4 := Lib.hid (D3.out.trans (d4.mono D3.out.size))
          clear d4 D3
          go_wp2_with fail
          refine (netv_any a _).mono ?_
          rintro e u5 ⟨rfl, d5⟩
          have D5 := Lib.hid (D4.out.trans (d5.mono D4.out.size))
          clear d5 D4
          go_wp2_with fail
          refine (H1p.out _ D5.out).mono ?_
          rintro e u6 ⟨rfl, d6⟩
          have D6 := Lib.hid (D5.out.trans (d6.mono D5.out.size))
          clear d6 D5
          go_wp2_with fail
          refine (netv_any a _).mono ?_
          rintro e u7 ⟨rfl, d7⟩
          have D7 := Lib.hid (D6.out.trans (d7.mono D6.out.size))
          clear d7 D6
          go_wp2_with fail
          refine (H1q.out _ D7.out).mono ?_
          rintro e u8 ⟨rfl, d8⟩
          have D8 := Lib.hid (D7.out.trans (d8.mono D7.out.size))
          clear d8 D7
          go_wp2_with fail
          refine (netv_any a _).mono ?_
          rintro e u9 ⟨rfl, d9⟩
          have D9 := Lib.hid (D8.out.trans (d9.mono D8.out.size))
          clear d9 D8
          go_wp2_with fail
          refine (H2p.out _ D9.out).mono ?_
          rintro e u10 ⟨rfl, d10⟩
          have D10 := Lib.hid (D9.out.trans (d10.mono D9.out.size))
          clear d10 D9
          go_wp2_with fail
          refine (netv_any a _).mono ?_
          rintro e u11 ⟨rfl, d11⟩
          have D11 := Lib.hid (D10.out.trans (d11.mono D10.out.size))
          clear d11 D10
          go_wp2_with fail
          refine (H2q.out _ D11.out).mono ?_
          rintro e u12 ⟨rfl, d12⟩
          have D12 := Lib.hid (D11.out.trans (d12.mono D11.out.size))
          clear d12 D11
          have HE := Lib.hid (show ApartAt W u12 ga gb jl a (T) ∧ 0 ≤ T ∧ T ≤ 300 * ((j + 1 : Nat) : Int) from ⟨⟨_, _, _, _, HZ.out.1.below D12.out, HZ.out.2⟩, by have := HTT.out.1; omega, by have := HTT.out.2; rw [Int.natCast_add]; omega⟩)
          clear D12
          go_wp2_with fail
          go_roundw
          case rel =>
            try rw [HJ.out]
            exact ⟨j + 1, _, HLT.out, by rw [Int.natCast_add]; rfl, rfl, HE⟩
          case measure =>
            try rw [HJ.out]
            show n - ((j : Int) + 1).toNat < n - ((j : Int)).toNat
            have := HLT.out
            omega
        | true =>
          obtain ⟨y5, hy5⟩ := HP5.out.b
          have HWQ := Lib.hid (want_any hy5 (HP4.out.2.2.ok HP4.out.2.1) HTT.out.1 HP5.out.bel.size 1 x k3 k4)
          clear hy5
          go_wp2_with fail
          refine HWQ.out.mono ?_
          rintro e w6 ⟨rfl, hp6, t6⟩
          have HF := Lib.hid (show ApartAt W w6 ga gb jl a T from ⟨_, _, _, _, (HP5.out.swap.grow hp6 t6).swap, HAW.out.1, HAW.out.2.2 (of_decide_eq_true HOW.out)⟩)
          clear hp6 t6 z1 z2 z3 z4
          obtain ⟨p9, q9, Fa9, Fb9, hpr9, hok9, hap9⟩ := HF.out
          have HZ := Lib.hid (And.intro hpr9 (And.intro hok9 hap9))
          have hok9' := hap9.ok hok9
          obtain ⟨y9, hy9⟩ := hpr9.a
          obtain ⟨z9, hz9⟩ := hpr9.b
          have hkn := hap9.known (now := T)
          obtain ⟨bh, hbh⟩ : ∃ bh, hasP p9 1 a = bh := ⟨_, rfl⟩
          obtain ⟨bb, hbb⟩ : ∃ bb, bornP p9 1 a T = bb := ⟨_, rfl⟩
          obtain ⟨bs, hbs⟩ : ∃ bs, saysP p9 1 a = bs := ⟨_, rfl⟩
          have H0p := Lib.hid (fun V hV => phas_any (hy9.below (w' := V) hV) hok9 1 a)
          have H0q := Lib.hid (fun V hV => phas_any (hz9.below (w' := V) hV) hok9' 1 a)
          have H1p := Lib.hid (fun V hV => pborn_any (hy9.below (w' := V) hV) hok9 1 a T)
          have H1q := Lib.hid (fun V hV => pborn_any (hz9.below (w' := V) hV) hok9' 1 a T)
          have H2p := Lib.hid (fun V hV => psays_any (hy9.below (w' := V) hV) hok9 1 a)
          have H2q := Lib.hid (fun V hV => psays_any (hz9.below (w' := V) hV) hok9' 1 a)
          rw [hkn.1] at H0q
          rw [hkn.2.1] at H1q
          rw [hkn.2.2] at H2q
          rw [hbh] at H0p H0q
          rw [hbb] at H1p H1q
          rw [hbs] at H2p H2q
          have n0' : (bh != bh) = false := by simp
          have n1' : (bb != bb) = false := by simp
          have n2' : (bs != bs) = false := by simp
          clear hok9' hy9 hz9 hkn hbh hbb hbs hpr9 hok9 hap9
          go_wp2_with fail
          refine (netv_any a _).mono ?_
          rintro e u1 ⟨rfl, d1⟩
          have D1 := Lib.hid d1
          clear d1
          go_wp2_with fail
          refine (H0p.out _ D1.out).mono ?_
          rintro e u2 ⟨rfl, d2⟩
          have D2 := Lib.hid (D1.out.trans (d2.mono D1.out.size))
          clear d2 D1
          go_wp2_with fail
          refine (netv_any a _).mono ?_
          rintro e u3 ⟨rfl, d3⟩
          have D3 := Lib.hid (D2.out.trans (d3.mono D2.out.size))
          clear d3 D2
          go_wp2_with fail
          refine (H0q.out _ D3.out).mono ?_
          rintro e u4 ⟨rfl, d4⟩
          have D4 := Lib.hid (D3.out.trans (d4.mono D3.out.size))
          clear d4 D3
          go_wp2_with fail
          refine (netv_any a _).mono ?_
          rintro e u5 ⟨rfl, d5⟩
          have D5 := Lib.hid (D4.out.trans (d5.mono D4.out.size))
          clear d5 D4
          go_wp2_with fail
          refine (H1p.out _ D5.out).mono ?_
          rintro e u6 ⟨rfl, d6⟩
          have D6 := Lib.hid (D5.out.trans (d6.mono D5.out.size))
          clear d6 D5
          go_wp2_with fail
          refine (netv_any a _).mono ?_
          rintro e u7 ⟨rfl, d7⟩
          have D7 := Lib.hid (D6.out.trans (d7.mono D6.out.size))
          clear d7 D6
          go_wp2_with fail
          refine (H1q.out _ D7.out).mono ?_
          rintro e u8 ⟨rfl, d8⟩
          have D8 := Lib.hid (D7.out.trans (d8.mono D7.out.size))
          clear d8 D7
          go_wp2_with fail
          refine (netv_any a _).mono ?_
          rintro e u9 ⟨rfl, d9⟩
          have D9 := Lib.hid (D8.out.trans (d9.mono D8.out.size))
          clear d9 D8
          go_wp2_with fail
          refine (H2p.out _ D9.out).mono ?_
          rintro e u10 ⟨rfl, d10⟩
          have D10 := Lib.hid (D9.out.trans (d10.mono D9.out.size))
          clear d10 D9
          go_wp2_with fail
          refine (netv_any a _).mono ?_
          rintro e u11 ⟨rfl, d11⟩
          have D11 := Lib.hid (D10.out.trans (d11.mono D10.out.size))
          clear d11 D10
          go_wp2_with fail
          refine (H2q.out _ D11.out).mono ?_
          rintro e u12 ⟨rfl, d12⟩
          have D12 := Lib.hid (D11.out.trans (d12.mono D11.out.size))
          clear d12 D11
          have HE := Lib.hid (show ApartAt W u12 ga gb jl a (T) ∧ 0 ≤ T ∧ T ≤ 300 * ((j + 1 : Nat) : Int) from ⟨⟨_, _, _, _, HZ.out.1.below D12.out, HZ.out.2⟩, by have := HTT.out.1; omega, by have := HTT.out.2; rw [Int.natCast_add]; omega⟩)
          clear D12
          go_wp2_with fail
          go_roundw
          case rel =>
            try rw [HJ.out]
            exact ⟨j + 1, _, HLT.out, by rw [Int.natCast_add]; rfl, rfl, HE⟩
          case measure =>
            try rw [HJ.out]
            show n - ((j : Int) + 1).toNat < n - ((j : Int)).toNat
            have := HLT.out
            omega
      by_cases zk2 : k0 = 2
      · subst zk2
        obtain ⟨ev, hev⟩ : ∃ ev, wrap64 ((IntKind.u64.wrap k3).tmod 6) = ev := ⟨_, rfl⟩
        have HEV := Lib.hid hev
        have HAW := Lib.hid (HP4.out.2.2.hearQ HP4.out.2.1 HTT.out.1 HX.out ev T)
        have hbA := bel_alloc2 w4 (.cells #[.int .i64 1, .int .i64 x, .int .i64 ev, .int .i64 T] 52) (.cells #[.slice none 0 0, .slice (some ⟨w4.heap.size, 0, none⟩) 1 1] 32)
        have hBw := (Blk.new w4 52 #[.int .i64 1, .int .i64 x, .int .i64 ev, .int .i64 T]).alloc (.cells #[.slice none 0 0, .slice (some ⟨w4.heap.size, 0, none⟩) 1 1] 32)
        have hBm := Blk.new (w4.alloc (.cells #[.int .i64 1, .int .i64 x, .int .i64 ev, .int .i64 T] 52)) 32 #[.slice none 0 0, .slice (some ⟨w4.heap.size, 0, none⟩) 1 1]
        have hsz : (w4.alloc (.cells #[.int .i64 1, .int .i64 x, .int .i64 ev, .int .i64 T] 52)).heap.size = w4.heap.size + 1 := by
          show (w4.heap.push _).size = _
          exact Array.size_push ..
        rw [hsz] at hBm
        have hpr6 := HP4.out.1.below hbA
        have HTT2 := Lib.hid (tk_of HTT.out.1 (by have := HTT.out.2; have := HJJ.out; omega))
        have hNa : ¬ Fa w4.heap.size ∧ ¬ Fa (w4.heap.size + 1) ∧ ¬ Fb w4.heap.size := by
          have h1 := HSO.out.1.lt
          exact ⟨fun c => by have := HNF.out.1 _ c; omega, fun c => by have := HNF.out.1 _ c; omega, fun c => by have := HNF.out.2 _ c; omega⟩
        have HNA := Lib.hid hNa
        have HBW := Lib.hid (And.intro hBw hBm)
        have HP6 := Lib.hid hpr6
        have HWM := Lib.hid (fun (V : World) (h : Blk V w4.heap.size 52 #[.int .i64 1, .int .i64 x, .int .i64 ev, .int .i64 T]) => word_at (x := x) (e := ev) (c := T) h.lt ⟨h.cell 0, h.cell 1, h.cell 2, h.cell 3⟩)
        obtain ⟨y4, hy4⟩ := hpr6.a
        have HHR := Lib.hid (phear_any hy4 HP4.out.2.1 HTT2.out HP6.out.bel.size none (some ⟨w4.heap.size, 0, none⟩) 0 1 ⟨[], [⟨1, x, ev, T⟩]⟩ (by show 0 ≤ 1048576; omega) (by show 1 ≤ 1048576; omega) (fun V tV => ints_none _ _ _) (fun V tV => HWM.out V (HBW.out.1.touch tV HNA.out.1)))
        clear hev hbA hBw hBm hsz hpr6 hNa hy4
        go_wp2_with fail
        rw [HEV.out]
        refine HHR.out.mono ?_
        rintro e w5 ⟨⟨r5, rfl⟩, hp5, t5⟩
        have HP5 := Lib.hid (HP6.out.grow hp5 t5)
        have hBm5 := HBW.out.2.touch t5 HNA.out.2.1
        have z1 := hBm5.cell 0
        have z2 := hBm5.cell 1
        have HW5 := Lib.hid (HBW.out.1.touch t5 HNA.out.1)
        clear hp5 t5 x0 x1 x2 x3 x4 hBm5
        cases own with
        | false =>
          have HF := Lib.hid (show ApartAt W w5 ga gb jl a T from ⟨_, _, _, _, HP5.out, HAW.out.1, HAW.out.2.1 (of_decide_eq_false HOW.out)⟩)
          clear z1 z2
          obtain ⟨p9, q9, Fa9, Fb9, hpr9, hok9, hap9⟩ := HF.out
          have HZ := Lib.hid (And.intro hpr9 (And.intro hok9 hap9))
          have hok9' := hap9.ok hok9
          obtain ⟨y9, hy9⟩ := hpr9.a
          obtain ⟨z9, hz9⟩ := hpr9.b
          have hkn := hap9.known (now := T)
          obtain ⟨bh, hbh⟩ : ∃ bh, hasP p9 1 a = bh := ⟨_, rfl⟩
          obtain ⟨bb, hbb⟩ : ∃ bb, bornP p9 1 a T = bb := ⟨_, rfl⟩
          obtain ⟨bs, hbs⟩ : ∃ bs, saysP p9 1 a = bs := ⟨_, rfl⟩
          have H0p := Lib.hid (fun V hV => phas_any (hy9.below (w' := V) hV) hok9 1 a)
          have H0q := Lib.hid (fun V hV => phas_any (hz9.below (w' := V) hV) hok9' 1 a)
          have H1p := Lib.hid (fun V hV => pborn_any (hy9.below (w' := V) hV) hok9 1 a T)
          have H1q := Lib.hid (fun V hV => pborn_any (hz9.below (w' := V) hV) hok9' 1 a T)
          have H2p := Lib.hid (fun V hV => psays_any (hy9.below (w' := V) hV) hok9 1 a)
          have H2q := Lib.hid (fun V hV => psays_any (hz9.below (w' := V) hV) hok9' 1 a)
          rw [hkn.1] at H0q
          rw [hkn.2.1] at H1q
          rw [hkn.2.2] at H2q
          rw [hbh] at H0p H0q
          rw [hbb] at H1p H1q
          rw [hbs] at H2p H2q
          have n0' : (bh != bh) = false := by simp
          have n1' : (bb != bb) = false := by simp
          have n2' : (bs != bs) = false := by simp
          clear hok9' hy9 hz9 hkn hbh hbb hbs hpr9 hok9 hap9
          go_wp2_with fail
          refine (netv_any a _).mono ?_
          rintro e u1 ⟨rfl, d1⟩
          have D1 := Lib.hid d1
          clear d1
          go_wp2_with fail
          refine (H0p.out _ D1.out).mono ?_
          rintro e u2 ⟨rfl, d2⟩
          have D2 := Lib.hid (D1.out.trans (d2.mono D1.out.size))
          clear d2 D1
          go_wp2_with fail
          refine (netv_any a _).mono ?_
          rintro e u3 ⟨rfl, d3⟩
          have D3 := Lib.hid (D2.out.trans (d3.mono D2.out.size))
          clear d3 D2
          go_wp2_with fail
          refine (H0q.out _ D3.out).mono ?_
          rintro e u4 ⟨rfl, d4⟩
          have D4 := Lib.hid (D3.out.trans (d4.mono D3.out.size))
          clear d4 D3
          go_wp2_with fail
          refine (netv_any a _).mono ?_
          rintro e u5 ⟨rfl, d5⟩
          have D5 := Lib.hid (D4.out.trans (d5.mono D4.out.size))
          clear d5 D4
          go_wp2_with fail
          refine (H1p.out _ D5.out).mono ?_
          rintro e u6 ⟨rfl, d6⟩
          have D6 := Lib.hid (D5.out.trans (d6.mono D5.out.size))
          clear d6 D5
          go_wp2_with fail
          refine (netv_any a _).mono ?_
          rintro e u7 ⟨rfl, d7⟩
          have D7 := Lib.hid (D6.out.trans (d7.mono D6.out.size))
          clear d7 D6
          go_wp2_with fail
          refine (H1q.out _ D7.out).mono ?_
          rintro e u8 ⟨rfl, d8⟩
          have D8 := Lib.hid (D7.out.trans (d8.mono D7.out.size))
          clear d8 D7
          go_wp2_with fail
          refine (netv_any a _).mono ?_
          rintro e u9 ⟨rfl, d9⟩
          have D9 := Lib.hid (D8.out.trans (d9.mono D8.out.size))
          clear d9 D8
          go_wp2_with fail
          refine (H2p.out _ D9.out).mono ?_
          rintro e u10 ⟨rfl, d10⟩
          have D10 := Lib.hid (D9.out.trans (d10.mono D9.out.size))
          clear d10 D9
          go_wp2_with fail
          refine (netv_any a _).mono ?_
          rintro e u11 ⟨rfl, d11⟩
          have D11 := Lib.hid (D10.out.trans (d11.mono D10.out.size))
          clear d11 D10
          go_wp2_with fail
          refine (H2q.out _ D11.out).mono ?_
          rintro e u12 ⟨rfl, d12⟩
          have D12 := Lib.hid (D11.out.trans (d12.mono D11.out.size))
          clear d12 D11
          have HE := Lib.hid (show ApartAt W u12 ga gb jl a (T) ∧ 0 ≤ T ∧ T ≤ 300 * ((j + 1 : Nat) : Int) from ⟨⟨_, _, _, _, HZ.out.1.below D12.out, HZ.out.2⟩, by have := HTT.out.1; omega, by have := HTT.out.2; rw [Int.natCast_add]; omega⟩)
          clear D12
          go_wp2_with fail
          go_roundw
          case rel =>
            try rw [HJ.out]
            exact ⟨j + 1, _, HLT.out, by rw [Int.natCast_add]; rfl, rfl, HE⟩
          case measure =>
            try rw [HJ.out]
            show n - ((j : Int) + 1).toNat < n - ((j : Int)).toNat
            have := HLT.out
            omega
        | true =>
          obtain ⟨y5, hy5⟩ := HP5.out.b
          have HHQ := Lib.hid (phear_any hy5 (HP4.out.2.2.ok HP4.out.2.1) HTT2.out HP5.out.bel.size none (some ⟨w4.heap.size, 0, none⟩) 0 1 ⟨[], [⟨1, x, ev, T⟩]⟩ (by show 0 ≤ 1048576; omega) (by show 1 ≤ 1048576; omega) (fun V tV => ints_none _ _ _) (fun V tV => HWM.out V (HW5.out.touch tV HNA.out.2.2)))
          clear hy5
          go_wp2_with fail
          refine HHQ.out.mono ?_
          rintro e w6 ⟨⟨r6, rfl⟩, hp6, t6⟩
          have HF := Lib.hid (show ApartAt W w6 ga gb jl a T from ⟨_, _, _, _, (HP5.out.swap.grow hp6 t6).swap, HAW.out.1, HAW.out.2.2 (of_decide_eq_true HOW.out)⟩)
          clear hp6 t6 z1 z2
          obtain ⟨p9, q9, Fa9, Fb9, hpr9, hok9, hap9⟩ := HF.out
          have HZ := Lib.hid (And.intro hpr9 (And.intro hok9 hap9))
          have hok9' := hap9.ok hok9
          obtain ⟨y9, hy9⟩ := hpr9.a
          obtain ⟨z9, hz9⟩ := hpr9.b
          have hkn := hap9.known (now := T)
          obtain ⟨bh, hbh⟩ : ∃ bh, hasP p9 1 a = bh := ⟨_, rfl⟩
          obtain ⟨bb, hbb⟩ : ∃ bb, bornP p9 1 a T = bb := ⟨_, rfl⟩
          obtain ⟨bs, hbs⟩ : ∃ bs, saysP p9 1 a = bs := ⟨_, rfl⟩
          have H0p := Lib.hid (fun V hV => phas_any (hy9.below (w' := V) hV) hok9 1 a)
          have H0q := Lib.hid (fun V hV => phas_any (hz9.below (w' := V) hV) hok9' 1 a)
          have H1p := Lib.hid (fun V hV => pborn_any (hy9.below (w' := V) hV) hok9 1 a T)
          have H1q := Lib.hid (fun V hV => pborn_any (hz9.below (w' := V) hV) hok9' 1 a T)
          have H2p := Lib.hid (fun V hV => psays_any (hy9.below (w' := V) hV) hok9 1 a)
          have H2q := Lib.hid (fun V hV => psays_any (hz9.below (w' := V) hV) hok9' 1 a)
          rw [hkn.1] at H0q
          rw [hkn.2.1] at H1q
          rw [hkn.2.2] at H2q
          rw [hbh] at H0p H0q
          rw [hbb] at H1p H1q
          rw [hbs] at H2p H2q
          have n0' : (bh != bh) = false := by simp
          have n1' : (bb != bb) = false := by simp
          have n2' : (bs != bs) = false := by simp
          clear hok9' hy9 hz9 hkn hbh hbb hbs hpr9 hok9 hap9
          go_wp2_with fail
          refine (netv_any a _).mono ?_
          rintro e u1 ⟨rfl, d1⟩
          have D1 := Lib.hid d1
          clear d1
          go_wp2_with fail
          refine (H0p.out _ D1.out).mono ?_
          rintro e u2 ⟨rfl, d2⟩
          have D2 := Lib.hid (D1.out.trans (d2.mono D1.out.size))
          clear d2 D1
          go_wp2_with fail
          refine (netv_any a _).mono ?_
          rintro e u3 ⟨rfl, d3⟩
          have D3 := Lib.hid (D2.out.trans (d3.mono D2.out.size))
          clear d3 D2
          go_wp2_with fail
          refine (H0q.out _ D3.out).mono ?_
          rintro e u4 ⟨rfl, d4⟩
          have D4 := Lib.hid (D3.out.trans (d4.mono D3.out.size))
          clear d4 D3
          go_wp2_with fail
          refine (netv_any a _).mono ?_
          rintro e u5 ⟨rfl, d5⟩
          have D5 := Lib.hid (D4.out.trans (d5.mono D4.out.size))
          clear d5 D4
          go_wp2_with fail
          refine (H1p.out _ D5.out).mono ?_
          rintro e u6 ⟨rfl, d6⟩
          have D6 := Lib.hid (D5.out.trans (d6.mono D5.out.size))
          clear d6 D5
          go_wp2_with fail
          refine (netv_any a _).mono ?_
          rintro e u7 ⟨rfl, d7⟩
          have D7 := Lib.hid (D6.out.trans (d7.mono D6.out.size))
          clear d7 D6
          go_wp2_with fail
          refine (H1q.out _ D7.out).mono ?_
          rintro e u8 ⟨rfl, d8⟩
          have D8 := Lib.hid (D7.out.trans (d8.mono D7.out.size))
          clear d8 D7
          go_wp2_with fail
          refine (netv_any a _).mono ?_
          rintro e u9 ⟨rfl, d9⟩
          have D9 := Lib.hid (D8.out.trans (d9.mono D8.out.size))
          clear d9 D8
          go_wp2_with fail
          refine (H2p.out _ D9.out).mono ?_
          rintro e u10 ⟨rfl, d10⟩
          have D10 := Lib.hid (D9.out.trans (d10.mono D9.out.size))
          clear d10 D9
          go_wp2_with fail
          refine (netv_any a _).mono ?_
          rintro e u11 ⟨rfl, d11⟩
          have D11 := Lib.hid (D10.out.trans (d11.mono D10.out.size))
          clear d11 D10
          go_wp2_with fail
          refine (H2q.out _ D11.out).mono ?_
          rintro e u12 ⟨rfl, d12⟩
          have D12 := Lib.hid (D11.out.trans (d12.mono D11.out.size))
          clear d12 D11
          have HE := Lib.hid (show ApartAt W u12 ga gb jl a (T) ∧ 0 ≤ T ∧ T ≤ 300 * ((j + 1 : Nat) : Int) from ⟨⟨_, _, _, _, HZ.out.1.below D12.out, HZ.out.2⟩, by have := HTT.out.1; omega, by have := HTT.out.2; rw [Int.natCast_add]; omega⟩)
          clear D12
          go_wp2_with fail
          go_roundw
          case rel =>
            try rw [HJ.out]
            exact ⟨j + 1, _, HLT.out, by rw [Int.natCast_add]; rfl, rfl, HE⟩
          case measure =>
            try rw [HJ.out]
            show n - ((j : Int) + 1).toNat < n - ((j : Int)).toNat
            have := HLT.out
            omega
      by_cases zk3 : k0 = 3
      · subst zk3
        have hk3 := HPL.out rfl
        obtain ⟨N, hN⟩ : ∃ N : Nat, (N : Int) = k3 := ⟨k3.toNat, by omega⟩
        have HNN := Lib.hid (show N ≤ 300 by omega)
        have HSA := Lib.hid (show ApartAt W w4 ga gb jl a T from ⟨_, _, _, _, HP4.out⟩)
        subst hN
        clear hk3 x2 x3 x4 HEQ
        go_wp2_with fail
        go_loopw [9, 98] (fun tv iv wr => ∃ (i : Nat) (S : Int), i ≤ N ∧ iv = .int .i64 i ∧ tv = .int .i64 S ∧ Hid (ApartAt W wr ga gb jl a S ∧ T ≤ S ∧ S ≤ T + i)) (fun _ iv _ => N - (intOf iv).toNat)
        case atStart => exact ⟨0, T, Nat.zero_le _, rfl, rfl, Lib.hid ⟨HSA.out, Int.le_refl _, by omega⟩⟩
        case round =>
          obtain ⟨i, S, hi, rfl, rfl, hI⟩ := hrel
          by_cases hil : i < N
          · have i1 : (i : Int) < N := by omega
            have i0 : (0 : Int) ≤ i := by omega
            have HJI := Lib.hid (show wrap64 ((i : Int) + 1) = (i : Int) + 1 from IntWalk.wrap64_in _ (by have := HNN.out; omega))
            have hSb : 0 ≤ S ∧ S ≤ 20000 := by have := HTT.out; have := HJJ.out; have := hI.out.2; have := HNN.out; omega
            have hS1 : wrap64 (S + 1) = S + 1 := IntWalk.wrap64_in _ (by omega)
            obtain ⟨p2, q2, Fa2, Fb2, hpr2, hok2, hap2⟩ := hI.out.1
            have hok2' : PyOk (S + 1) p2 := hok2.more (by omega)
            have hS0 : 0 ≤ S + 1 := by omega
            obtain ⟨y2, hy2⟩ := hpr2.a
            have HTK := Lib.hid (tick_any hy2 hok2' (tk_of hS0 (by omega)))
            have HP2 := Lib.hid (And.intro hpr2 (And.intro hok2' (And.intro hap2 (tk_of hS0 (by omega)))))
            have HQ := Lib.hid (And.intro (hok2'.tick hS0 (jitD jl)) (hap2.tick (jitD jl) (S + 1)))
            have HILT := Lib.hid (And.intro hil hI.out.2)
            clear hy2 hok2 hok2' hpr2 hap2 hS0 hSb hil hi hI
            go_wp2_with fail
            try rw [hS1]
            refine HTK.out.mono ?_
            rintro e w5 ⟨A5, c5, B5, d5, rfl, _, _, hp5, t5⟩
            have HP5 := Lib.hid (HP2.out.1.same hp5 t5)
            obtain ⟨y5, hy5⟩ := HP5.out.b
            have HTQ := Lib.hid (tick_any hy5 (HP2.out.2.2.1.ok HP2.out.2.1) HP2.out.2.2.2)
            clear hp5 t5 hy5
            go_wp2_with fail
            try rw [hS1]
            refine HTQ.out.mono ?_
            rintro e w6 ⟨A6, c6, B6, d6, rfl, _, _, hp6, t6⟩
            have HE := Lib.hid (show ApartAt W w6 ga gb jl a (S + 1) ∧ T ≤ S + 1 ∧ S + 1 ≤ T + ((i + 1 : Nat) : Int) from ⟨⟨_, _, _, _, (HP5.out.swap.same hp6 t6).swap, HQ.out⟩, by have := HILT.out.2; omega, by have := HILT.out.2; rw [Int.natCast_add]; omega⟩)
            clear hp6 t6
            go_wp2_with fail
            try rw [hS1]
            go_roundw
            case rel =>
              try rw [HJI.out]
              exact ⟨i + 1, S + 1, HILT.out.1, by rw [Int.natCast_add]; rfl, by first | rfl | rw [hS1], HE⟩
            case measure =>
              try rw [HJI.out]
              show N - ((i : Int) + 1).toNat < N - ((i : Int)).toNat
              have := HILT.out.1
              omega
          · obtain rfl : i = N := by omega
            have HTS := Lib.hid hI.out.2
            have HF := Lib.hid hI.out.1
            clear hi hil hI
            go_wp2_with fail
            obtain ⟨p9, q9, Fa9, Fb9, hpr9, hok9, hap9⟩ := HF.out
            have HZ := Lib.hid (And.intro hpr9 (And.intro hok9 hap9))
            have hok9' := hap9.ok hok9
            obtain ⟨y9, hy9⟩ := hpr9.a
            obtain ⟨z9, hz9⟩ := hpr9.b
            have hkn := hap9.known (now := S)
            obtain ⟨bh, hbh⟩ : ∃ bh, hasP p9 1 a = bh := ⟨_, rfl⟩
            obtain ⟨bb, hbb⟩ : ∃ bb, bornP p9 1 a S = bb := ⟨_, rfl⟩
            obtain ⟨bs, hbs⟩ : ∃ bs, saysP p9 1 a = bs := ⟨_, rfl⟩
            have H0p := Lib.hid (fun V hV => phas_any (hy9.below (w' := V) hV) hok9 1 a)
            have H0q := Lib.hid (fun V hV => phas_any (hz9.below (w' := V) hV) hok9' 1 a)
            have H1p := Lib.hid (fun V hV => pborn_any (hy9.below (w' := V) hV) hok9 1 a S)
            have H1q := Lib.hid (fun V hV => pborn_any (hz9.below (w' := V) hV) hok9' 1 a S)
            have H2p := Lib.hid (fun V hV => psays_any (hy9.below (w' := V) hV) hok9 1 a)
            have H2q := Lib.hid (fun V hV => psays_any (hz9.below (w' := V) hV) hok9' 1 a)
            rw [hkn.1] at H0q
            rw [hkn.2.1] at H1q
            rw [hkn.2.2] at H2q
            rw [hbh] at H0p H0q
            rw [hbb] at H1p H1q
            rw [hbs] at H2p H2q
            have n0' : (bh != bh) = false := by simp
            have n1' : (bb != bb) = false := by simp
            have n2' : (bs != bs) = false := by simp
            clear hok9' hy9 hz9 hkn hbh hbb hbs hpr9 hok9 hap9
            go_wp2_with fail
            refine (netv_any a _).mono ?_
            rintro e u1 ⟨rfl, d1⟩
            have D1 := Lib.hid d1
            clear d1
            go_wp2_with fail
            refine (H0p.out _ D1.out).mono ?_
            rintro e u2 ⟨rfl, d2⟩
            have D2 := Lib.hid (D1.out.trans (d2.mono D1.out.size))
            clear d2 D1
            go_wp2_with fail
            refine (netv_any a _).mono ?_
            rintro e u3 ⟨rfl, d3⟩
            have D3 := Lib.hid (D2.out.trans (d3.mono D2.out.size))
            clear d3 D2
            go_wp2_with fail
            refine (H0q.out _ D3.out).mono ?_
            rintro e u4 ⟨rfl, d4⟩
            have D4 := Lib.hid (D3.out.trans (d4.mono D3.out.size))
            clear d4 D3
            go_wp2_with fail
            refine (netv_any a _).mono ?_
            rintro e u5 ⟨rfl, d5⟩
            have D5 := Lib.hid (D4.out.trans (d5.mono D4.out.size))
            clear d5 D4
            go_wp2_with fail
            refine (H1p.out _ D5.out).mono ?_
            rintro e u6 ⟨rfl, d6⟩
            have D6 := Lib.hid (D5.out.trans (d6.mono D5.out.size))
            clear d6 D5
            go_wp2_with fail
            refine (netv_any a _).mono ?_
            rintro e u7 ⟨rfl, d7⟩
            have D7 := Lib.hid (D6.out.trans (d7.mono D6.out.size))
            clear d7 D6
            go_wp2_with fail
            refine (H1q.out _ D7.out).mono ?_
            rintro e u8 ⟨rfl, d8⟩
            have D8 := Lib.hid (D7.out.trans (d8.mono D7.out.size))
            clear d8 D7
            go_wp2_with fail
            refine (netv_any a _).mono ?_
            rintro e u9 ⟨rfl, d9⟩
            have D9 := Lib.hid (D8.out.trans (d9.mono D8.out.size))
            clear d9 D8
            go_wp2_with fail
            refine (H2p.out _ D9.out).mono ?_
            rintro e u10 ⟨rfl, d10⟩
            have D10 := Lib.hid (D9.out.trans (d10.mono D9.out.size))
            clear d10 D9
            go_wp2_with fail
            refine (netv_any a _).mono ?_
            rintro e u11 ⟨rfl, d11⟩
            have D11 := Lib.hid (D10.out.trans (d11.mono D10.out.size))
            clear d11 D10
            go_wp2_with fail
            refine (H2q.out _ D11.out).mono ?_
            rintro e u12 ⟨rfl, d12⟩
            have D12 := Lib.hid (D11.out.trans (d12.mono D11.out.size))
            clear d12 D11
            have HE := Lib.hid (show ApartAt W u12 ga gb jl a (S) ∧ 0 ≤ S ∧ S ≤ 300 * ((j + 1 : Nat) : Int) from ⟨⟨_, _, _, _, HZ.out.1.below D12.out, HZ.out.2⟩, by have := HTT.out; have := HTS.out; omega, by have := HTT.out; have := HTS.out; have := HNN.out; rw [Int.natCast_add]; omega⟩)
            clear D12
            go_wp2_with fail
            go_roundw
            case rel =>
              try rw [HJ.out]
              exact ⟨j + 1, _, HLT.out, by rw [Int.natCast_add]; rfl, rfl, HE⟩
            case measure =>
              try rw [HJ.out]
              show n - ((j : Int) + 1).toNat < n - ((j : Int)).toNat
              have := HLT.out
              omega
      by_cases zk4 : k0 = 4
      · subst zk4
        obtain ⟨y4, hy4⟩ := HP4.out.1.a
        have HFP := Lib.hid (flush_any hy4 HP4.out.2.1)
        clear hy4 x1 x2 x3 x4 HEQ
        go_wp2_with fail
        refine HFP.out.mono ?_
        rintro e w5 ⟨rfl, hp5, t5⟩
        have HP5 := Lib.hid (HP4.out.1.same hp5 t5)
        obtain ⟨y5, hy5⟩ := HP5.out.b
        have HFQ := Lib.hid (flush_any hy5 (HP4.out.2.2.ok HP4.out.2.1))
        clear hp5 t5 hy5
        go_wp2_with fail
        refine HFQ.out.mono ?_
        rintro e w6 ⟨rfl, hp6, t6⟩
        have HF := Lib.hid (show ApartAt W w6 ga gb jl a T from ⟨_, _, _, _, (HP5.out.swap.same hp6 t6).swap, HP4.out.2.1.flush HTT.out.1, HP4.out.2.2.flush T⟩)
        clear hp6 t6
        obtain ⟨p9, q9, Fa9, Fb9, hpr9, hok9, hap9⟩ := HF.out
        have HZ := Lib.hid (And.intro hpr9 (And.intro hok9 hap9))
        have hok9' := hap9.ok hok9
        obtain ⟨y9, hy9⟩ := hpr9.a
        obtain ⟨z9, hz9⟩ := hpr9.b
        have hkn := hap9.known (now := T)
        obtain ⟨bh, hbh⟩ : ∃ bh, hasP p9 1 a = bh := ⟨_, rfl⟩
        obtain ⟨bb, hbb⟩ : ∃ bb, bornP p9 1 a T = bb := ⟨_, rfl⟩
        obtain ⟨bs, hbs⟩ : ∃ bs, saysP p9 1 a = bs := ⟨_, rfl⟩
        have H0p := Lib.hid (fun V hV => phas_any (hy9.below (w' := V) hV) hok9 1 a)
        have H0q := Lib.hid (fun V hV => phas_any (hz9.below (w' := V) hV) hok9' 1 a)
        have H1p := Lib.hid (fun V hV => pborn_any (hy9.below (w' := V) hV) hok9 1 a T)
        have H1q := Lib.hid (fun V hV => pborn_any (hz9.below (w' := V) hV) hok9' 1 a T)
        have H2p := Lib.hid (fun V hV => psays_any (hy9.below (w' := V) hV) hok9 1 a)
        have H2q := Lib.hid (fun V hV => psays_any (hz9.below (w' := V) hV) hok9' 1 a)
        rw [hkn.1] at H0q
        rw [hkn.2.1] at H1q
        rw [hkn.2.2] at H2q
        rw [hbh] at H0p H0q
        rw [hbb] at H1p H1q
        rw [hbs] at H2p H2q
        have n0' : (bh != bh) = false := by simp
        have n1' : (bb != bb) = false := by simp
        have n2' : (bs != bs) = false := by simp
        clear hok9' hy9 hz9 hkn hbh hbb hbs hpr9 hok9 hap9
        go_wp2_with fail
        refine (netv_any a _).mono ?_
        rintro e u1 ⟨rfl, d1⟩
        have D1 := Lib.hid d1
        clear d1
        go_wp2_with fail
        refine (H0p.out _ D1.out).mono ?_
        rintro e u2 ⟨rfl, d2⟩
        have D2 := Lib.hid (D1.out.trans (d2.mono D1.out.size))
        clear d2 D1
        go_wp2_with fail
        refine (netv_any a _).mono ?_
        rintro e u3 ⟨rfl, d3⟩
        have D3 := Lib.hid (D2.out.trans (d3.mono D2.out.size))
        clear d3 D2
        go_wp2_with fail
        refine (H0q.out _ D3.out).mono ?_
        rintro e u4 ⟨rfl, d4⟩
        have D4 := Lib.hid (D3.out.trans (d4.mono D3.out.size))
        clear d4 D3
        go_wp2_with fail
        refine (netv_any a _).mono ?_
        rintro e u5 ⟨rfl, d5⟩
        have D5 := Lib.hid (D4.out.trans (d5.mono D4.out.size))
        clear d5 D4
        go_wp2_with fail
        refine (H1p.out _ D5.out).mono ?_
        rintro e u6 ⟨rfl, d6⟩
        have D6 := Lib.hid (D5.out.trans (d6.mono D5.out.size))
        clear d6 D5
        go_wp2_with fail
        refine (netv_any a _).mono ?_
        rintro e u7 ⟨rfl, d7⟩
        have D7 := Lib.hid (D6.out.trans (d7.mono D6.out.size))
        clear d7 D6
        go_wp2_with fail
        refine (H1q.out _ D7.out).mono ?_
        rintro e u8 ⟨rfl, d8⟩
        have D8 := Lib.hid (D7.out.trans (d8.mono D7.out.size))
        clear d8 D7
        go_wp2_with fail
        refine (netv_any a _).mono ?_
        rintro e u9 ⟨rfl, d9⟩
        have D9 := Lib.hid (D8.out.trans (d9.mono D8.out.size))
        clear d9 D8
        go_wp2_with fail
        refine (H2p.out _ D9.out).mono ?_
        rintro e u10 ⟨rfl, d10⟩
        have D10 := Lib.hid (D9.out.trans (d10.mono D9.out.size))
        clear d10 D9
        go_wp2_with fail
        refine (netv_any a _).mono ?_
        rintro e u11 ⟨rfl, d11⟩
        have D11 := Lib.hid (D10.out.trans (d11.mono D10.out.size))
        clear d11 D10
        go_wp2_with fail
        refine (H2q.out _ D11.out).mono ?_
        rintro e u12 ⟨rfl, d12⟩
        have D12 := Lib.hid (D11.out.trans (d12.mono D11.out.size))
        clear d12 D11
        have HE := Lib.hid (show ApartAt W u12 ga gb jl a (T) ∧ 0 ≤ T ∧ T ≤ 300 * ((j + 1 : Nat) : Int) from ⟨⟨_, _, _, _, HZ.out.1.below D12.out, HZ.out.2⟩, by have := HTT.out.1; omega, by have := HTT.out.2; rw [Int.natCast_add]; omega⟩)
        clear D12
        go_wp2_with fail
        go_roundw
        case rel =>
          try rw [HJ.out]
          exact ⟨j + 1, _, HLT.out, by rw [Int.natCast_add]; rfl, rfl, HE⟩
        case measure =>
          try rw [HJ.out]
          show n - ((j : Int) + 1).toNat < n - ((j : Int)).toNat
          have := HLT.out
          omega
      have f1 : (k0 == 1) = false := by simpa using zk1
      have f2 : (k0 == 2) = false := by simpa using zk2
      have f3 : (k0 == 3) = false := by simpa using zk3
      have f4 : (k0 == 4) = false := by simpa using zk4
      clear zk1 zk2 zk3 zk4
      have HF := Lib.hid (show ApartAt W w4 ga gb jl a T from ⟨_, _, _, _, HP4.out⟩)
      clear x1 x2 x3 x4 HEQ
      obtain ⟨p9, q9, Fa9, Fb9, hpr9, hok9, hap9⟩ := HF.out
      have HZ := Lib.hid (And.intro hpr9 (And.intro hok9 hap9))
      have hok9' := hap9.ok hok9
      obtain ⟨y9, hy9⟩ := hpr9.a
      obtain ⟨z9, hz9⟩ := hpr9.b
      have hkn := hap9.known (now := T)
      obtain ⟨bh, hbh⟩ : ∃ bh, hasP p9 1 a = bh := ⟨_, rfl⟩
      obtain ⟨bb, hbb⟩ : ∃ bb, bornP p9 1 a T = bb := ⟨_, rfl⟩
      obtain ⟨bs, hbs⟩ : ∃ bs, saysP p9 1 a = bs := ⟨_, rfl⟩
      have H0p := Lib.hid (fun V hV => phas_any (hy9.below (w' := V) hV) hok9 1 a)
      have H0q := Lib.hid (fun V hV => phas_any (hz9.below (w' := V) hV) hok9' 1 a)
      have H1p := Lib.hid (fun V hV => pborn_any (hy9.below (w' := V) hV) hok9 1 a T)
      have H1q := Lib.hid (fun V hV => pborn_any (hz9.below (w' := V) hV) hok9' 1 a T)
      have H2p := Lib.hid (fun V hV => psays_any (hy9.below (w' := V) hV) hok9 1 a)
      have H2q := Lib.hid (fun V hV => psays_any (hz9.below (w' := V) hV) hok9' 1 a)
      rw [hkn.1] at H0q
      rw [hkn.2.1] at H1q
      rw [hkn.2.2] at H2q
      rw [hbh] at H0p H0q
      rw [hbb] at H1p H1q
      rw [hbs] at H2p H2q
      have n0' : (bh != bh) = false := by simp
      have n1' : (bb != bb) = false := by simp
      have n2' : (bs != bs) = false := by simp
      clear hok9' hy9 hz9 hkn hbh hbb hbs hpr9 hok9 hap9
      go_wp2_with fail
      refine (netv_any a _).mono ?_
      rintro e u1 ⟨rfl, d1⟩
      have D1 := Lib.hid d1
      clear d1
      go_wp2_with fail
      refine (H0p.out _ D1.out).mono ?_
      rintro e u2 ⟨rfl, d2⟩
      have D2 := Lib.hid (D1.out.trans (d2.mono D1.out.size))
      clear d2 D1
      go_wp2_with fail
      refine (netv_any a _).mono ?_
      rintro e u3 ⟨rfl, d3⟩
      have D3 := Lib.hid (D2.out.trans (d3.mono D2.out.size))
      clear d3 D2
      go_wp2_with fail
      refine (H0q.out _ D3.out).mono ?_
      rintro e u4 ⟨rfl, d4⟩
      have D4 := Lib.hid (D3.out.trans (d4.mono D3.out.size))
      clear d4 D3
      go_wp2_with fail
      refine (netv_any a _).mono ?_
      rintro e u5 ⟨rfl, d5⟩
      have D5 := Lib.hid (D4.out.trans (d5.mono D4.out.size))
      clear d5 D4
      go_wp2_with fail
      refine (H1p.out _ D5.out).mono ?_
      rintro e u6 ⟨rfl, d6⟩
      have D6 := Lib.hid (D5.out.trans (d6.mono D5.out.size))
      clear d6 D5
      go_wp2_with fail
      refine (netv_any a _).mono ?_
      rintro e u7 ⟨rfl, d7⟩
      have D7 := Lib.hid (D6.out.trans (d7.mono D6.out.size))
      clear d7 D6
      go_wp2_with fail
      refine (H1q.out _ D7.out).mono ?_
      rintro e u8 ⟨rfl, d8⟩
      have D8 := Lib.hid (D7.out.trans (d8.mono D7.out.size))
      clear d8 D7
      go_wp2_with fail
      refine (netv_any a _).mono ?_
      rintro e u9 ⟨rfl, d9⟩
      have D9 := Lib.hid (D8.out.trans (d9.mono D8.out.size))
      clear d9 D8
      go_wp2_with fail
      refine (H2p.out _ D9.out).mono ?_
      rintro e u10 ⟨rfl, d10⟩
      have D10 := Lib.hid (D9.out.trans (d10.mono D9.out.size))
      clear d10 D9
      go_wp2_with fail
      refine (netv_any a _).mono ?_
      rintro e u11 ⟨rfl, d11⟩
      have D11 := Lib.hid (D10.out.trans (d11.mono D10.out.size))
      clear d11 D10
      go_wp2_with fail
      refine (H2q.out _ D11.out).mono ?_
      rintro e u12 ⟨rfl, d12⟩
      have D12 := Lib.hid (D11.out.trans (d12.mono D11.out.size))
      clear d12 D11
      have HE := Lib.hid (show ApartAt W u12 ga gb jl a (T) ∧ 0 ≤ T ∧ T ≤ 300 * ((j + 1 : Nat) : Int) from ⟨⟨_, _, _, _, HZ.out.1.below D12.out, HZ.out.2⟩, by have := HTT.out.1; omega, by have := HTT.out.2; rw [Int.natCast_add]; omega⟩)
      clear D12
      go_wp2_with fail
      go_roundw
      case rel =>
        try rw [HJ.out]
        exact ⟨j + 1, _, HLT.out, by rw [Int.natCast_add]; rfl, rfl, HE⟩
      case measure =>
        try rw [HJ.out]
        show n - ((j : Int) + 1).toNat < n - ((j : Int)).toNat
        have := HLT.out
        omega
    · obtain rfl : j = n := by omega
      obtain ⟨p, q, Fa, Fb, hpr, hok, hap⟩ := hS.out.1
      obtain ⟨y, hy⟩ := hpr.a
      have HFL := Lib.hid (pfails_any hy)
      rw [hap.fails, show wrap64 ((0 : Nat) : Int) = 0 from (IntWalk.wrap64_in _ (by omega)).trans rfl] at HFL
      have HE := Lib.hid hpr.bel
      clear hS hpr hok hap hj hlt hy
      go_wp2_with fail
      refine HFL.out.mono ?_
      rintro e w9 ⟨rfl, rfl⟩
      go_wp2_with fail
      go_ret
      exact ⟨rfl, HE.out⟩
set_option maxRecDepth 100000 in
theorem liftedPartyApart (os : Os) (started : os.Started) (H : Type) (enc : TypeId × Value → H) :
    ReturnsInHanded {} Try.checked os 5 .any (Rows.partyApartSpec.pre6 enc Try.prog Try.f5 Rows.partyApartRow.domain false) (Rows.partyApartSpec.post enc Try.prog Try.f5 false true false false) := by
  refine returnsInHanded_of_change (C := Try.checked) own started (by kernel_rfl) Try.func5
    (ChangeSpec.witness6 (enc := enc) (C := Try.checked) false ⟨#[], #[.slice none 0 0, .slice none 0 0, .int .i64 0], []⟩ 8 (by kernel_rfl) (by kernel_rfl) (by kernel_rfl) (by kernel_rfl)) ?_
  intro W base args ds gs before hval0 hW hcnd _
  have hval : ∀ (j : Nat) t v, Try.f5.params[j]? = some t → args[j]? = some v → Value.okWide Try.prog W .any base t v := hval0
  have hW' := hW
  obtain ⟨p, q, hA0, hV, rfl, hfz, hnd⟩ := hW
  have hA : DataW.TrodAll enc Try.prog W 0 (fun _ => true) true Try.f5.params.toList args.toList ds p := hA0
  rw [Try.params5] at hA hval
  obtain ⟨v0, vs0, d0, ds0, p0, q0, hargs, rfl, rfl, h0, r0⟩ := trodAll_cons hA
  obtain ⟨v1, vs1, d1, ds1, p1, q1, rfl, rfl, rfl, h1, r1⟩ := trodAll_cons r0
  obtain ⟨v2, vs2, d2, ds2, p2, q2, rfl, rfl, rfl, h2, r2⟩ := trodAll_cons r1
  obtain ⟨rfl, rfl, rfl⟩ := trodAll_nil r2
  obtain rfl : args = #[v0, v1, v2] := by cases args; simp_all
  obtain ⟨rfl, rfl⟩ := trodVars_none hV
  obtain ⟨a0, len0, cap0, rfl⟩ := okWide_slice Try.underlying22 (hval 0 22 v0 rfl rfl)
  have k0 := h0
  have lt0 : ∀ x ∈ p0, x.block < W.heap.size := by obtain ⟨m, hm⟩ := k0; exact DataW.trod_lt m _ _ _ hm
  obtain ⟨z0, w0⟩ : ∃ zs, IsRow .i64 W a0 len0 cap0 zs := by
    obtain ⟨fuel, hf⟩ := h0
    rcases open_ints Try.underlying22 Try.underlying3 (by kernel_rfl) hf with ⟨hcs, _⟩ | ⟨x, l, c, zs, hcs, _, hl, hm, hz, _, hcell, hwz⟩
    · simp [Value.cells] at hcs
      obtain ⟨rfl, rfl, rfl⟩ := hcs
      exact ⟨[], .inl ⟨rfl, rfl, rfl, rfl⟩⟩
    · simp [Value.cells] at hcs
      obtain ⟨rfl, rfl, rfl⟩ := hcs
      exact ⟨zs, .inr ⟨_, rfl, hl, hm, by simpa using hz, cell_lt hcell (by simpa using hz), hcell, hwz⟩⟩
  obtain ⟨a1', len1', cap1', rfl⟩ := okWide_slice Try.underlying23 (hval 1 23 v1 rfl rfl)
  have k1 := h1
  have lt1 : ∀ x ∈ p1, x.block < W.heap.size := by obtain ⟨m, hm⟩ := k1; exact DataW.trod_lt m _ _ _ hm
  obtain ⟨a1, cap1, l1, w1, e1, e2, e3⟩ : ∃ a cap, ∃ l : List Sp, (SpAt W W.heap.size a l ∧ l.length ≤ maxLen) ∧ a1' = a ∧ len1' = l.length ∧ cap1' = cap := by
    obtain ⟨fuel, hf⟩ := h1
    obtain ⟨a, cap, l, hcs, q⟩ := open_steps hf
    simp [Value.cells] at hcs
    obtain ⟨rfl, rfl, rfl⟩ := hcs
    exact ⟨_, _, l, q, rfl, rfl, rfl⟩
  subst e1 e2 e3
  obtain ⟨a2, rfl, rfl, rfl, w2⟩ := open_int Try.underlying3 (hval 2 3 v2 rfl rfl) h2
  clear hA0 hval0
  refine (walkPartyApart a0 len0 cap0 z0 a1' cap1' l1 a2 W w0 w1 w2).mono fun e W' ⟨he, bel⟩ => ?_
  subst he
  exact ⟨_, rfl, _, _, _, [], _, [], hW', trodAll_mk1 (shut_bool Try.underlying4 _), (trodAll_cons_mk (Below.trod laidOut (by kernel_rfl) (of_decide_eq_true (by kernel_rfl)) k0 bel lt0) (trodAll_cons_mk (Below.trod laidOut (by kernel_rfl) (of_decide_eq_true (by kernel_rfl)) k1 bel lt1) (trodAll_cons_mk (shut_int Try.underlying3 w2) trodAll_mk0))), rfl, bel.frame _, fun h => by cases h⟩

theorem overPartyApart : Rows.partyApartRow.holds Try.pinned (OpenSpec.ofChange Rows.partyApartSpec) :=
  OpenClaim.holds_of_wide 5 Try.f5 rfl rfl rfl rfl rfl rfl rfl ⟨rfl, rfl, rfl, rfl, rfl⟩ rfl rfl rfl rfl rfl (by kernel_rfl) Try.func5 (by kernel_rfl)
    (of_decide_eq_true (by kernel_rfl)) (by unfold Func.isWrapper; first | (rw [if_pos (by decide +kernel)]; kernel_rfl) | (rw [if_neg (by decide +kernel)]; exact ⟨rfl, rfl⟩))
    (fun os started H enc _ => liftedPartyApart os started H enc)

/-- The statement. -/
theorem partyApart_holds : Rows.PartyApartSaid := overPartyApart

#print axioms partyApart_holds
end Go.Proofs.Ythghedlgeceepaa
