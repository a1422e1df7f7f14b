/- The statement SpreadBack: what is registered at one port alone isn't said there. Its condition: Wants' contract. -/
import Derived.Test.YtaieopejabpegaaSWants
namespace Go.Proofs.Ytaieopejabpegaa
open Go.RowKit
set_option maxRecDepth 100000

set_option maxHeartbeats 16000000 in
theorem walkBack (HWI : WantsIs) (A : Option Addr) (c : Nat) (l : List Vx) (a : At) (own : Int) (w : World) (hA : VxAt w w.heap.size A l) (hl : l.length * 56 ≤ 140737488351232) :
    Calls Try.prog 5 #[.slice A l.length c, .agg #[.int .i64 a.t, .int .i64 a.v], .int .i64 own] w fun e w' => e = .returned (.bool true) ∧ Below w.heap.size w w' := by
  obtain ⟨n, hn⟩ : ∃ n, l.length = n := ⟨_, rfl⟩
  have HPL := Lib.hid (fun (V : World) (hV : Below w.heap.size w V) => splain_any A c l V ((hA.below hV).more hV.size) hl)
  have HWC := Lib.hid (fun (V : World) (hV : Below w.heap.size w V) h20 hs => HWI A c l a own V ((hA.below hV).more hV.size) h20 hs)
  have HA := Lib.hid hA
  have HN := Lib.hid hn
  rw [hn] at HPL HWC ⊢
  have HB0 := Lib.hid (box1 w a)
  clear hA hl hn
  go_enter Try.func5, Try.ntmps5
  go_wp2_with fail
  refine (salive_any HWI _).mono ?_
  rintro e v1 ⟨rfl, b1⟩
  have HB1 := Lib.hid (HB0.out.below b1)
  clear b1
  have HP1 := Lib.hid (HPL.out v1 HB1.out.1)
  have a0 := HB1.out.2.cell 0
  have a1 := HB1.out.2.cell 1
  go_wp2_with fail
  refine HP1.out.mono ?_
  rintro e v2 ⟨(⟨z, rfl⟩ | ⟨Am, cm, rfl, hm, hcm, h20, hsm⟩), b2⟩
  · have HE := Lib.hid (HB1.out.below b2)
    clear b2 a0 a1
    go_wp2_with fail
    go_ret
    exact ⟨rfl, HE.out.1⟩
  have HB2 := Lib.hid (HB1.out.below b2)
  have HM := Lib.hid (And.intro hm (And.intro h20 hsm))
  clear b2 hm hcm h20 hsm a0 a1
  go_wp2_with fail
  go_loopw [9, 10, 28] (fun nv av iv wr => ∃ j : Nat, j ≤ n ∧ iv = .int .i64 j ∧ nv = .int .i64 (cntS (vws l) a j : Nat) ∧ av = .int .i64 (lastS (vws l) a j) ∧ Hid (Box1 w wr a ∧ Below v2.heap.size v2 wr)) (fun _ _ iv _ => n - (intOf iv).toNat)
  case atStart => exact ⟨0, Nat.zero_le _, rfl, rfl, rfl, Lib.hid ⟨HB2.out, Below.refl _ _⟩⟩
  case round =>
    obtain ⟨j, hj, rfl, rfl, rfl, HS⟩ := hrel
    by_cases hlt : j < n
    · have j1 : (j : Int) < n := by omega
      have j0 : (0 : Int) ≤ j := by omega
      have HLT := Lib.hid hlt
      have HJ := Lib.hid (show wrap64 ((j : Int) + 1) = (j : Int) + 1 from IntWalk.wrap64_in _ (by have := HM.out.2.1; omega))
      have hcw : wrap64 ((cntS (vws l) a j : Int) + 1) = (cntS (vws l) a j : Int) + 1 := IntWalk.wrap64_in _ (by have := cntS_le (vws l) a j; have := HM.out.2.1; omega)
      obtain ⟨⟨b, off, eA, hbl, hc⟩, hr⟩ := HM.out.1 j (by rw [HN.out]; exact hlt)
      have hc := hc.below HS.out.2 hbl
      have hxl := HM.out.2.2 j hlt
      have hbv : bornV ((vws l).getD j vw0) a = bornV (l.getD j vx0).v a := by rw [vws_at l (by rw [HN.out]; exact hlt)]
      have hcn : cntS (vws l) a (j + 1) = if 0 ≤ bornV (l.getD j vx0).v a then cntS (vws l) a j + 1 else cntS (vws l) a j := by rw [← hbv]; rfl
      have hls : lastS (vws l) a (j + 1) = if 0 ≤ bornV (l.getD j vx0).v a then (j : Int) else lastS (vws l) a j := by rw [← hbv]; rfl
      obtain ⟨x, hx⟩ : ∃ x, l.getD j vx0 = x := ⟨_, rfl⟩
      rw [hx] at hc hr hcn hls hxl
      have HR := Lib.hid (fun (V : World) (hV : Below v2.heap.size v2 V) => dborn_any x a V (Vx.rows_more (Vx.rows_below hr hV) hV.size) (by omega))
      obtain ⟨bo, hbo⟩ : ∃ bo, bornV x.v a = bo := ⟨_, rfl⟩
      rw [hbo] at HR hcn hls
      have HST := Lib.hid (And.intro hcn hls)
      obtain ⟨cn, hcn'⟩ : ∃ cn, cntS (vws l) a j = cn := ⟨_, rfl⟩
      obtain ⟨la, hla⟩ : ∃ la, lastS (vws l) a j = la := ⟨_, rfl⟩
      rw [hcn', hla] at HST
      rw [hcn'] at hcw
      rw [hcn', hla]
      obtain ⟨xop, xA, xc, xs, xA', xc', xbs⟩ := x
      obtain ⟨q0, q1, q2⟩ := hc
      obtain ⟨xn, hxn⟩ : ∃ xn, xs.length = xn := ⟨_, rfl⟩
      obtain ⟨xm, hxm⟩ : ∃ xm, xbs.length = xm := ⟨_, rfl⟩
      simp only [hxn, hxm] at q0 q1 q2
      simp only [Vx.cells, hxn, hxm] at HR
      have a0 := fun o => (HS.out.1.below (bel_alloc wr o)).2.cell 0
      have a1 := fun o => (HS.out.1.below (bel_alloc wr o)).2.cell 1
      have HB3 := Lib.hid (And.intro (HS.out.1.below (bel_alloc wr (.cells #[.bool xop, .slice xA xn xc, .slice xA' xm xc'] 38))) (HS.out.2.trans ((bel_alloc wr (.cells #[.bool xop, .slice xA xn xc, .slice xA' xm xc'] 38)).mono HS.out.2.size)))
      subst eA
      clear hj hlt hbl hr hx hxl hbo hbv hcn hls hcn' hla hxn hxm
      go_wp2_with fail
      refine (HR.out _ HB3.out.2).mono ?_
      rintro e w3 ⟨rfl, b3⟩
      have HB4 := Lib.hid (And.intro (HB3.out.1.below b3) (HB3.out.2.trans (b3.mono HB3.out.2.size)))
      clear b3 a0 a1 q0 q1 q2
      by_cases hb : 0 ≤ bo
      · have HE := Lib.hid (show cntS (vws l) a (j + 1) = cn + 1 ∧ lastS (vws l) a (j + 1) = (j : Int) from ⟨HST.out.1.trans (if_pos hb), HST.out.2.trans (if_pos hb)⟩)
        go_wp2_with fail
        go_roundw
        case rel =>
          rw [HJ.out]
          exact ⟨j + 1, HLT.out, by rw [Int.natCast_add]; rfl, by rw [HE.out.1, hcw, Int.natCast_add]; rfl, by rw [HE.out.2], HB4⟩
        case measure =>
          rw [HJ.out]
          show n - ((j : Int) + 1).toNat < n - ((j : Int)).toNat
          have := HLT.out
          omega
      · have HE := Lib.hid (show cntS (vws l) a (j + 1) = cn ∧ lastS (vws l) a (j + 1) = la from ⟨HST.out.1.trans (if_neg hb), HST.out.2.trans (if_neg hb)⟩)
        have hb' : bo < 0 := by omega
        go_wp2_with fail
        go_roundw
        case rel =>
          rw [HJ.out]
          exact ⟨j + 1, HLT.out, by rw [Int.natCast_add]; rfl, by rw [HE.out.1], by rw [HE.out.2], HB4⟩
        case measure =>
          rw [HJ.out]
          show n - ((j : Int) + 1).toNat < n - ((j : Int)).toNat
          have := HLT.out
          omega
    · obtain rfl : n = j := by omega
      have HWX := Lib.hid (HWC.out wr HS.out.1.1 HM.out.2.1 HM.out.2.2)
      have a0 := HS.out.1.2.cell 0
      have a1 := HS.out.1.2.cell 1
      obtain ⟨cn, hcn⟩ : ∃ cn, cntS (vws l) a n = cn := ⟨_, rfl⟩
      obtain ⟨la, hla⟩ : ∃ la, lastS (vws l) a n = la := ⟨_, rfl⟩
      have HCL := Lib.hid (And.intro hcn hla)
      have H20 := Lib.hid HM.out.2.1
      rw [hcn, hla]
      clear hj hlt hcn hla
      go_wp2_with fail
      refine HWX.out.mono ?_
      rintro e v4 ⟨Aw, cw, rfl, hi, hcw, b4⟩
      have HI := Lib.hid hi
      have HB5 := Lib.hid (HS.out.1.below b4)
      have HL := Lib.hid (show (wantsL (vws l) a own).length = n by rw [wantsL_length, vws_length]; exact HN.out)
      clear hi hcw b4 a0 a1
      go_wp2_with fail
      have HW6 := Lib.hid HB5.out.1
      clear HS HB5 HM HPL HWC HWX
      go_loopw [47] (fun iv wr => ∃ j : Nat, j ≤ n ∧ iv = .int .i64 j ∧ Hid (Below v4.heap.size v4 wr)) (fun iv _ => n - (intOf iv).toNat)
      case atStart => exact ⟨0, Nat.zero_le _, rfl, Lib.hid (Below.refl _ _)⟩
      case round =>
        obtain ⟨j, hj, rfl, HS2⟩ := hrel
        by_cases hlt : j < n
        · have j1 : (j : Int) < n := by omega
          have j0 : (0 : Int) ≤ j := by omega
          have HLT := Lib.hid hlt
          have HJ := Lib.hid (show wrap64 ((j : Int) + 1) = (j : Int) + 1 from IntWalk.wrap64_in _ (by have := H20.out; omega))
          obtain ⟨bi, oi, eAi, hbi, ci⟩ := HI.out j (by rw [HL.out]; exact hlt)
          have qi := (HS2.out.cell (p := ⟨bi, oi + j, none⟩) hbi).trans ci
          rw [wantsL_at _ _ _ (by rw [vws_length, HN.out]; exact hlt)] at qi
          obtain ⟨⟨b, off, eA, hbl, hc⟩, _⟩ := HA.out j (by rw [HN.out]; exact hlt)
          have hc := hc.below (HW6.out.trans (HS2.out.mono HW6.out.size)) hbl
          have q0 := hc.c0
          have hbk := back_plain (vws l) a own (i := j) (by rw [vws_length, HN.out]; exact hlt)
          rw [vws_at l (by rw [HN.out]; exact hlt), vws_length, HN.out, HCL.out.1, HCL.out.2] at hbk
          obtain ⟨z, hz⟩ : ∃ z, wantV (vws l) a own j = z := ⟨_, rfl⟩
          rw [hz] at qi hbk
          replace hbk : 0 ≤ z ↔ (l.getD j vx0).op = true ∧ (0 ≤ own ∨ 2 ≤ cn ∨ (cn = 1 ∧ ¬ (j : Int) = la)) := hbk
          obtain ⟨op, hop⟩ : ∃ op, (l.getD j vx0).op = op := ⟨_, rfl⟩
          rw [hop] at q0 hbk
          have HBK := Lib.hid hbk
          have HS2D := HS2
          subst eAi eA
          clear hj hlt hbi ci hbl hc hbk hz hop
          cases op with
          | false =>
            have hz : z < 0 := by
              have hz0 : ¬ 0 ≤ z := fun h => by
                have h := HBK.out.1 h
                cases h.1
              omega
            go_wp2_with fail
            go_roundw
            case rel =>
              rw [HJ.out]
              exact ⟨j + 1, HLT.out, by rw [Int.natCast_add]; rfl, HS2D⟩
            case measure =>
              rw [HJ.out]
              show n - ((j : Int) + 1).toNat < n - ((j : Int)).toNat
              have := HLT.out
              omega
          | true =>
            by_cases c0 : 0 ≤ own
            · have hz : 0 ≤ z := HBK.out.2 ⟨rfl, .inl c0⟩
              go_wp2_with fail
              go_roundw
              case rel =>
                rw [HJ.out]
                exact ⟨j + 1, HLT.out, by rw [Int.natCast_add]; rfl, HS2D⟩
              case measure =>
                rw [HJ.out]
                show n - ((j : Int) + 1).toNat < n - ((j : Int)).toNat
                have := HLT.out
                omega
            · have c0' : own < 0 := by omega
              by_cases c2 : 2 ≤ cn
              · have c2i : (2 : Int) ≤ cn := by omega
                have hz : 0 ≤ z := HBK.out.2 ⟨rfl, .inr (.inl c2)⟩
                go_wp2_with fail
                go_roundw
                case rel =>
                  rw [HJ.out]
                  exact ⟨j + 1, HLT.out, by rw [Int.natCast_add]; rfl, HS2D⟩
                case measure =>
                  rw [HJ.out]
                  show n - ((j : Int) + 1).toNat < n - ((j : Int)).toNat
                  have := HLT.out
                  omega
              · have c2i : (cn : Int) < 2 := by omega
                have c2n : cn < 2 := by omega
                by_cases c1 : cn = 1
                · subst c1
                  by_cases cl : (j : Int) = la
                  · subst cl
                    have hz : z < 0 := by
                      have hz0 : ¬ 0 ≤ z := fun h => by
                        have h := HBK.out.1 h
                        rcases h.2 with h | h | h <;> omega
                      omega
                    go_wp2_with fail
                    go_roundw
                    case rel =>
                      rw [HJ.out]
                      exact ⟨j + 1, HLT.out, by rw [Int.natCast_add]; rfl, HS2D⟩
                    case measure =>
                      rw [HJ.out]
                      show n - ((j : Int) + 1).toNat < n - ((j : Int)).toNat
                      have := HLT.out
                      omega
                  · have cl' : ((j : Int) != la) = true := by simpa using cl
                    have hz : 0 ≤ z := HBK.out.2 ⟨rfl, .inr (.inr ⟨rfl, cl⟩)⟩
                    go_wp2_with fail
                    go_roundw
                    case rel =>
                      rw [HJ.out]
                      exact ⟨j + 1, HLT.out, by rw [Int.natCast_add]; rfl, HS2D⟩
                    case measure =>
                      rw [HJ.out]
                      show n - ((j : Int) + 1).toNat < n - ((j : Int)).toNat
                      have := HLT.out
                      omega
                · obtain rfl : cn = 0 := by omega
                  have hz : z < 0 := by
                    have hz0 : ¬ 0 ≤ z := fun h => by
                      have h := HBK.out.1 h
                      rcases h.2 with h | h | h <;> omega
                    omega
                  go_wp2_with fail
                  go_roundw
                  case rel =>
                    rw [HJ.out]
                    exact ⟨j + 1, HLT.out, by rw [Int.natCast_add]; rfl, HS2D⟩
                  case measure =>
                    rw [HJ.out]
                    show n - ((j : Int) + 1).toNat < n - ((j : Int)).toNat
                    have := HLT.out
                    omega
        · obtain rfl : n = j := by omega
          clear hj hlt
          go_wp2_with fail
          go_ret
          exact ⟨rfl, HW6.out.trans (HS2.out.mono HW6.out.size)⟩
end Go.Proofs.Ytaieopejabpegaa
