/- The document's Want for layer 17. No condition but bounds on lengths. -/
import Derived.Test.YtaieopejabpegaaSnRef
namespace Go.Proofs.Ytaieopejabpegaa
open Go.RowKit
set_option maxRecDepth 100000

def vws (l : List Vx) : List Vw := l.map Vx.v
theorem vws_at (l : List Vx) {k : Nat} (h : k < l.length) : (vws l).getD k vw0 = (l.getD k vx0).v := by
  unfold vws
  rw [List.getD_eq_getElem?_getD, List.getElem?_map, List.getD_eq_getElem?_getD, List.getElem?_eq_getElem h]
  rfl
theorem vws_length (l : List Vx) : (vws l).length = l.length := by simp [vws]
set_option maxHeartbeats 8000000 in
theorem dwant_any (A : Option Addr) (c : Nat) (l : List Vx) (a : At) (own : Int) (port : Nat) (w : World) (hA : VxAt w w.heap.size A l) (hp : port < l.length) (hl : l.length ≤ 1048576) (hx : ∀ k, k < l.length → (l.getD k vx0).xs.length ≤ 1048576) :
    Calls Try.prog 11 #[.slice A l.length c, .agg #[.int .i64 a.t, .int .i64 a.v], .int .i64 own, .int .i64 port] w fun e w' => e = .returned (.int .i64 (wantV (vws l) a own port)) ∧ Below w.heap.size w w' := by
  obtain ⟨n, hn⟩ : ∃ n, l.length = n := ⟨_, rfl⟩
  have HA := Lib.hid hA
  have HL := Lib.hid (And.intro hn (And.intro hl (And.intro hp hx)))
  obtain ⟨⟨b, off, eA, hbl, h0⟩, _⟩ := hA port hp
  have HW := Lib.hid (show wantV (vws l) a own port = if (l.getD port vx0).op = true then bestTo (vws l) a own port l.length else -1 from by
    unfold wantV
    rw [vws_at l hp, vws_length]
    rfl)
  obtain ⟨x, hx0⟩ : ∃ x, l.getD port vx0 = x := ⟨_, rfl⟩
  rw [hx0] at h0 HW
  obtain ⟨op, xA, xc, xs, xA', xc', bs⟩ := x
  obtain ⟨q0, q1, q2⟩ := h0
  simp only at q0 q1 q2 HW
  rw [hn] at hp HW ⊢
  have p1 : (port : Int) < n := by omega
  have p0 : (0 : Int) ≤ port := by omega
  have HB := Lib.hid hbl
  have q0' : ∀ o, (w.alloc o).cell? ⟨b, off + port * 3, none⟩ = some (.bool op) := fun o => ((bel_alloc w o).cell (p := ⟨b, off + port * 3, none⟩) hbl).trans q0
  subst eA
  clear hA hl hx hn hx0 hbl q0 q1 q2
  cases op with
  | false =>
    go_enter Try.func11, Try.ntmps11
    go_wp2_with fail
    go_ret
    exact ⟨by rw [HW.out]; rfl, bel_alloc _ _⟩
  | true =>
    have HX := Lib.hid (And.intro (bel_alloc w (.cells #[.int .i64 a.t, .int .i64 a.v] 24)) (Blk.new w 24 #[.int .i64 a.t, .int .i64 a.v]))
    have HW2 := Lib.hid (show wantV (vws l) a own port = bestTo (vws l) a own port n from HW.out)
    clear HW
    go_enter Try.func11, Try.ntmps11
    go_wp2_with fail
    all_goals
      go_loopw [9, 22] (fun bv iv wr => ∃ j : Nat, j ≤ n ∧ iv = .int .i64 j ∧ bv = .int .i64 (bestTo (vws l) a own port j) ∧ Hid (Below w.heap.size w wr ∧ Blk wr w.heap.size 24 #[.int .i64 a.t, .int .i64 a.v])) (fun _ iv _ => n - (intOf iv).toNat)
      case atStart => exact ⟨0, Nat.zero_le _, rfl, by (show _ = Value.int .i64 (max own (-1)); congr 1; omega), HX⟩
      case round =>
        obtain ⟨j, hj, rfl, rfl, HS⟩ := hrel
        by_cases hlt : j < n
        · have j1 : (j : Int) < n := by omega
          have j0 : (0 : Int) ≤ j := by omega
          have HLT := Lib.hid hlt
          have HJ := Lib.hid (show wrap64 ((j : Int) + 1) = (j : Int) + 1 from IntWalk.wrap64_in _ (by have := HL.out.2.1; have := HL.out.1; omega))
          obtain ⟨⟨b', off', eA, hbl, hc⟩, hr⟩ := HA.out j (by rw [HL.out.1]; exact hlt)
          injection eA with eA
          injection eA with e1 e2
          subst e1 e2
          have hc := hc.below HS.out.1 hbl
          have HST := Lib.hid (show bestTo (vws l) a own port (j + 1) = if j ≠ port ∧ bestTo (vws l) a own port j < bornV (l.getD j vx0).v a then bornV (l.getD j vx0).v a else bestTo (vws l) a own port j from by
            show (if _ then _ else _) = _
            rw [vws_at l (by rw [HL.out.1]; exact HLT.out)])
          have hxl := HL.out.2.2.2 j (by rw [HL.out.1]; exact hlt)
          obtain ⟨x, hx⟩ : ∃ x, l.getD j vx0 = x := ⟨_, rfl⟩
          rw [hx] at hc hr HST hxl
          have HR := Lib.hid (fun (V : World) (hV : Below w.heap.size w V) => dborn_any x a V (Vx.rows_more (Vx.rows_below hr hV) hV.size) hxl)
          obtain ⟨q0, q1, q2⟩ := hc
          obtain ⟨bo, hbo⟩ : ∃ bo, bornV x.v a = bo := ⟨_, rfl⟩
          obtain ⟨be, hbe⟩ : ∃ be, bestTo (vws l) a own port j = be := ⟨_, rfl⟩
          rw [hbo] at HR HST
          rw [hbe] at HST
          rw [hbe]
          obtain ⟨xop, xA, xc, xs, xA', xc', xbs⟩ := x
          obtain ⟨xn, hxn⟩ : ∃ xn, xs.length = xn := ⟨_, rfl⟩
          obtain ⟨xm, hxm⟩ : ∃ xm, xbs.length = xm := ⟨_, rfl⟩
          simp only [hxn, hxm] at q0 q1 q2
          simp only [Vx.cells, hxn, hxm] at HR
          have a0 := fun o => (HS.out.2.alloc o).cell 0
          have a1 := fun o => (HS.out.2.alloc o).cell 1
          have HB2 := Lib.hid (And.intro (HS.out.1.trans ((bel_alloc wr (.cells #[.bool xop, .slice xA xn xc, .slice xA' xm xc'] 38)).mono HS.out.1.size)) (HS.out.2.alloc (.cells #[.bool xop, .slice xA xn xc, .slice xA' xm xc'] 38)))
          have hv := Blk.new wr 38 #[.bool xop, .slice xA xn xc, .slice xA' xm xc']
          have HV := Lib.hid hv
          clear hj hlt hbl hr hx hxl hbo hbe hxn hxm hv
          by_cases hjp : j = port
          · subst hjp
            have HE := Lib.hid (show bestTo (vws l) a own j (j + 1) = be from HST.out.trans (if_neg fun c => c.1 rfl))
            go_wp2_with fail
            go_roundw
            case rel =>
              rw [HJ.out]
              exact ⟨j + 1, HLT.out, by rw [Int.natCast_add]; rfl, by rw [HE.out], HB2⟩
            case measure =>
              rw [HJ.out]
              show n - ((j : Int) + 1).toNat < n - ((j : Int)).toNat
              have := HLT.out
              omega
          · have hjp' : ((j : Int) != port) = true := by simpa using fun c => hjp (by omega)
            have hjp'' : ((j : Int) == port) = false := by simpa using fun c => hjp (by omega)
            go_wp2_with fail
            refine (HR.out _ HB2.out.1).mono ?_
            rintro e w2 ⟨rfl, b2⟩
            have HB3 := Lib.hid (And.intro (HB2.out.1.trans (b2.mono HB2.out.1.size)) (HB2.out.2.below b2 HB2.out.2.lt))
            have hv2 := HV.out.below b2 HV.out.lt
            have z0 := hv2.cell 0
            have z1 := hv2.cell 1
            have z2 := hv2.cell 2
            have y0 := HB3.out.2.cell 0
            have y1 := HB3.out.2.cell 1
            clear b2 hv2 a0 a1 q0 q1 q2
            by_cases hgt : be < bo
            · have HE := Lib.hid (show bestTo (vws l) a own port (j + 1) = bo from HST.out.trans (if_pos ⟨hjp, hgt⟩))
              go_wp2_with fail
              refine (HR.out _ HB3.out.1).mono ?_
              rintro e w3 ⟨rfl, b3⟩
              have HB4 := Lib.hid (And.intro (HB3.out.1.trans (b3.mono HB3.out.1.size)) (HB3.out.2.below b3 HB3.out.2.lt))
              clear b3 z0 z1 z2 y0 y1
              go_wp2_with fail
              go_roundw
              case rel =>
                rw [HJ.out]
                exact ⟨j + 1, HLT.out, by rw [Int.natCast_add]; rfl, by rw [HE.out], HB4⟩
              case measure =>
                rw [HJ.out]
                show n - ((j : Int) + 1).toNat < n - ((j : Int)).toNat
                have := HLT.out
                omega
            · have HE := Lib.hid (show bestTo (vws l) a own port (j + 1) = be from HST.out.trans (if_neg fun c => hgt c.2))
              have hle : bo ≤ be := by omega
              clear z0 z1 z2 y0 y1
              go_wp2_with fail
              go_roundw
              case rel =>
                rw [HJ.out]
                exact ⟨j + 1, HLT.out, by rw [Int.natCast_add]; rfl, by rw [HE.out], HB3⟩
              case measure =>
                rw [HJ.out]
                show n - ((j : Int) + 1).toNat < n - ((j : Int)).toNat
                have := HLT.out
                omega
        · obtain rfl : j = n := by omega
          clear hj hlt
          go_wp2_with fail
          go_ret
          exact ⟨by rw [HW2.out]; rfl, HS.out.1⟩
end Go.Proofs.Ytaieopejabpegaa
