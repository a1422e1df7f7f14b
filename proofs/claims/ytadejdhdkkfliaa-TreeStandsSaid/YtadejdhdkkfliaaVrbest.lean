/- The document's Best, as a contract. Its condition: fewer than 2^20 ports. -/
import Derived.Test.YtadejdhdkkfliaaVbest
namespace Go.Proofs.Ytadejdhdkkfliaa
open Go.RowKit
set_option maxRecDepth 100000

set_option maxHeartbeats 4000000 in
theorem rbest_any (A : Option Addr) (c : Nat) (id : Int) (l : List Hd) (w : World) (h : HdAt w w.heap.size A l) (hok : ∀ x ∈ l, x.ok) (hn : l.length ≤ 1048576) :
    Calls Try.prog 67 #[.int .i64 id, .slice A l.length c] w fun e w' => e = .returned (.tuple #[(bestTo id l l.length).1.v, .int .i64 (bestTo id l l.length).2]) ∧ Below w.heap.size w w' := by
  obtain ⟨n, hnn⟩ : ∃ n, l.length = n := ⟨_, rfl⟩
  have HN := Lib.hid (And.intro hnn (And.intro hok hn))
  have HA := Lib.hid h
  rw [hnn]
  have HZ := Lib.hid (And.intro (Blk.new w 32 vz.arr) (bel_alloc w (.cells vz.arr 32)))
  clear h hok hn hnn
  go_enter Try.func67, Try.ntmps67
  have hst : BestSt w ((w.alloc (.cells vz.arr 32)).alloc (.cells (ownV id).arr 32)) (w.heap.size + 1) (ownV id) :=
    ⟨(Blk.new w _ _).alloc _, vec_new w _ _, bel_alloc2 w _ _, Nat.lt_succ_self _⟩
  have HST := Lib.hid hst
  clear hst
  obtain ⟨g, hg⟩ : ∃ g, w.heap.size + 1 = g := ⟨_, rfl⟩
  rw [hg] at HST
  go_wp2_with fail
  clear hg
  go_loopw [7, 16] (fun av iv wr => ∃ (j : Nat), j ≤ n ∧ iv = .int .i64 j ∧ av = .int .i64 (bestTo id l j).2 ∧ Hid (BestSt w wr g (bestTo id l j).1)) (fun _ iv _ => n - (intOf iv).toNat)
  case atStart => exact ⟨0, Nat.zero_le _, rfl, rfl, HST⟩
  case round =>
    obtain ⟨j, hj, rfl, rfl, hS⟩ := hrel
    by_cases hlt : j < n
    · have hstep : bestTo id l (j + 1) = stepB id (bestTo id l j) j (l.getD j hd0) := rfl
      have hmem : l.getD j hd0 ∈ l := by
        have hj' : j < l.length := by rw [HN.out.1]; exact hlt
        rw [List.getD_eq_getElem?_getD, List.getElem?_eq_getElem hj']; exact List.getElem_mem hj'
      have hxok := HN.out.2.1 _ hmem
      obtain ⟨b, off, rfl, hbl, hc⟩ := HA.out j (by rw [HN.out.1]; exact hlt)
      have hc := hc.below hS.out.bel hbl
      obtain ⟨x, hx⟩ : ∃ x, l.getD j hd0 = x := ⟨_, rfl⟩
      rw [hx] at hc hxok hstep
      obtain ⟨s, hs⟩ : ∃ s, bestTo id l j = s := ⟨_, rfl⟩
      rw [hs] at hS hstep ⊢
      obtain ⟨bv, at_⟩ := s
      obtain ⟨r, k, bb, p, a, cc, nn⟩ := x
      obtain ⟨q0, q1, q2, q3, q4, q5, q6⟩ := hc
      have hr : r ≤ 9223372036854775807 := hxok.1.1.2
      have HU := Lib.hid (fun w => use_any id ⟨r, k, bb, p, a, cc, nn⟩ hr w)
      simp only [Hd.v, Hd.arr] at HU
      have HSU := Lib.hid (fun w => rsum_any k cc hxok.1.2.1 hxok.2.2 w)
      obtain ⟨su, hsu⟩ : ∃ su, sumS k cc = su := ⟨_, rfl⟩
      rw [hsu] at HSU
      obtain ⟨tv, htv⟩ : ∃ tv, Vec.mk r su bb p = tv := ⟨_, rfl⟩
      have HTV := Lib.hid (show throughV (Hd.mk r k bb p a cc nn).vec (Hd.mk r k bb p a cc nn).way = tv by rw [← htv, ← hsu]; rfl)
      have hbe := fun w => rbetter_any tv bv w
      rw [show tv.v = .agg #[.int .i64 r, .int .i64 su, .int .i64 bb, .int .i64 p] by rw [← htv]; rfl] at hbe
      simp only [Vec.v, Vec.arr] at hbe
      have HBE := Lib.hid hbe
      clear hbe
      have zx := Blk.new wr 76 (Hd.mk r k bb p a cc nn).arr
      have bal := bel_alloc wr (.cells (Hd.mk r k bb p a cc nn).arr 76)
      have HX := Lib.hid (And.intro zx bal)
      have HST2 := Lib.hid (And.intro hstep hxok)
      have j1 : (j : Int) < n := by omega
      have j0 : (0 : Int) ≤ j := by omega
      have HJ := Lib.hid (show wrap64 ((j : Int) + 1) = (j : Int) + 1 from IntWalk.wrap64_in _ (by have := HN.out.2.2; have := HN.out.1; omega))
      have htv' := Lib.hid htv
      clear hstep hxok hmem hbl hx hs bal hr hj hsu htv
      go_wp2_with fail
      have k1 := zx.drew
      go_region_held3 (fun w' => w'.cell? ⟨wr.heap.size, 0, none⟩ = some (.int .i64 r) ∧ w'.cell? ⟨wr.heap.size, 1, none⟩ = some (.int .i64 k) ∧ w'.cell? ⟨wr.heap.size, 2, none⟩ = some (.int .i64 bb) ∧ w'.cell? ⟨wr.heap.size, 3, none⟩ = some (.int .i64 p) ∧ w'.cell? ⟨wr.heap.size, 5, none⟩ = some (.int .i64 cc))
        (first | exact ⟨k1.cell 0, k1.cell 1, k1.cell 2, k1.cell 3, k1.cell 5⟩ | exact ⟨(k1.alloc _).cell 0, (k1.alloc _).cell 1, (k1.alloc _).cell 2, (k1.alloc _).cell 3, (k1.alloc _).cell 5⟩)
        (first
          | (go_at_call 76; (with_reducible (refine (HSU.out _).mono ?_)); rintro e w' ⟨rfl, rfl⟩))
      all_goals
        obtain ⟨W2, hW2⟩ : ∃ W2, ((wr.alloc (.cells #[.int .i64 r, .int .i64 k, .int .i64 bb, .int .i64 p, .int .i64 a, .int .i64 cc, .bool nn] 76)).alloc (.cells #[.int .i64 r, .int .i64 su, .int .i64 bb, .int .i64 p] 32)).drew = W2 := ⟨_, rfl⟩
        have hg2 : BestSt w W2 g bv ∧ Blk W2 wr.heap.size 76 (Hd.mk r k bb p a cc nn).arr ∧ Blk W2 (wr.heap.size + 1) 32 #[.int .i64 r, .int .i64 su, .int .i64 bb, .int .i64 p] := by
          rw [← hW2]
          exact ⟨hS.out.go (bel_alloc2 wr _ _).drew, (HX.out.1.alloc _).drew, (vec_new wr _ _).drew⟩
        rw [hW2]
        have HG2 := Lib.hid hg2
        have x0 : W2.cell? ⟨wr.heap.size, 0, none⟩ = some (.int .i64 r) := hg2.2.1.cell 0
        have x1 : W2.cell? ⟨wr.heap.size, 1, none⟩ = some (.int .i64 k) := hg2.2.1.cell 1
        have x2 : W2.cell? ⟨wr.heap.size, 2, none⟩ = some (.int .i64 bb) := hg2.2.1.cell 2
        have x3 : W2.cell? ⟨wr.heap.size, 3, none⟩ = some (.int .i64 p) := hg2.2.1.cell 3
        have x4 : W2.cell? ⟨wr.heap.size, 4, none⟩ = some (.int .i64 a) := hg2.2.1.cell 4
        have x5 : W2.cell? ⟨wr.heap.size, 5, none⟩ = some (.int .i64 cc) := hg2.2.1.cell 5
        have x6 : W2.cell? ⟨wr.heap.size, 6, none⟩ = some (.bool nn) := hg2.2.1.cell 6
        clear hW2 hg2 k1 zx q0 q1 q2 q3 q4 q5 q6
        cases hu : useB id ⟨r, k, bb, p, a, cc, nn⟩
        · rw [hu] at HU
          have HE := Lib.hid (show bestTo id l (j + 1) = (bv, at_) by rw [HST2.out.1]; simp [stepB, hu])
          clear hu
          go_wp2_with fail
          refine (HU.out _).mono ?_
          rintro e w3 ⟨rfl, b3⟩
          have HS4 := Lib.hid (HG2.out.1.go b3)
          clear b3
          go_wp2_with fail
          go_roundw
          case rel =>
            rw [HJ.out]
            exact ⟨j + 1, hlt, by rw [Int.natCast_add]; rfl, by rw [HE.out], by rw [HE.out]; exact HS4⟩
          case measure =>
            rw [HJ.out]
            show n - ((j : Int) + 1).toNat < n - ((j : Int)).toNat
            omega
        · rw [hu] at HU
          have HUU := Lib.hid hu
          clear hu
          go_wp2_with fail
          refine (HU.out _).mono ?_
          rintro e w3 ⟨rfl, b3⟩
          have hz3 := HG2.out.2.2.below b3 HG2.out.2.2.lt
          have hs3 := HG2.out.1.go b3
          have t0 : w3.cell? ⟨wr.heap.size + 1, 0, none⟩ = some (.int .i64 r) := hz3.cell 0
          have t1 : w3.cell? ⟨wr.heap.size + 1, 1, none⟩ = some (.int .i64 su) := hz3.cell 1
          have t2 : w3.cell? ⟨wr.heap.size + 1, 2, none⟩ = some (.int .i64 bb) := hz3.cell 2
          have t3 : w3.cell? ⟨wr.heap.size + 1, 3, none⟩ = some (.int .i64 p) := hz3.cell 3
          have u0 : w3.cell? ⟨g, 0, none⟩ = some (.int .i64 bv.root) := hs3.best.cell 0
          have u1 : w3.cell? ⟨g, 1, none⟩ = some (.int .i64 bv.cost) := hs3.best.cell 1
          have u2 : w3.cell? ⟨g, 2, none⟩ = some (.int .i64 bv.bridge) := hs3.best.cell 2
          have u3 : w3.cell? ⟨g, 3, none⟩ = some (.int .i64 bv.port) := hs3.best.cell 3
          have HG3 := Lib.hid (And.intro hs3 hz3)
          clear b3 hz3 hs3 x0 x1 x2 x3 x4 x5 x6
          by_cases hri : id ≤ r
          · have HE := Lib.hid (show bestTo id l (j + 1) = (bv, at_) by rw [HST2.out.1]; simp [stepB]; omega)
            have d0 : decide (r < id) = false := decide_eq_false (by omega)
            go_wp2_with fail
            go_roundw
            case rel =>
              rw [HJ.out]
              exact ⟨j + 1, hlt, by rw [Int.natCast_add]; rfl, by rw [HE.out], by rw [HE.out]; exact Lib.hid HG3.out.1⟩
            case measure =>
              rw [HJ.out]
              show n - ((j : Int) + 1).toNat < n - ((j : Int)).toNat
              omega
          · have hri' : r < id := by omega
            cases hlv : decide (ltV tv bv)
            · rw [hlv] at HBE
              have HE := Lib.hid (show bestTo id l (j + 1) = (bv, at_) by
                rw [HST2.out.1]
                unfold stepB
                exact if_neg fun h => absurd h.2.2 (by rw [HTV.out]; exact of_decide_eq_false hlv))
              clear hlv hri
              go_wp2_with fail
              refine (HBE.out _).mono ?_
              rintro e w4 ⟨rfl, b4⟩
              have HS4 := Lib.hid (HG3.out.1.go b4)
              clear b4
              go_wp2_with fail
              go_roundw
              case rel =>
                rw [HJ.out]
                exact ⟨j + 1, hlt, by rw [Int.natCast_add]; rfl, by rw [HE.out], by rw [HE.out]; exact HS4⟩
              case measure =>
                rw [HJ.out]
                show n - ((j : Int) + 1).toNat < n - ((j : Int)).toNat
                omega
            · rw [hlv] at HBE
              have HE := Lib.hid (show bestTo id l (j + 1) = (tv, (j : Int)) by
                rw [HST2.out.1]
                unfold stepB
                rw [HTV.out]
                exact if_pos ⟨HUU.out, hri', of_decide_eq_true hlv⟩)
              clear hlv hri
              go_wp2_with fail
              refine (HBE.out _).mono ?_
              rintro e w4 ⟨rfl, b4⟩
              have hs4 := HG3.out.1.go b4
              have hz4 := HG3.out.2.below b4 HG3.out.2.lt
              have v0 : w4.cell? ⟨wr.heap.size + 1, 0, none⟩ = some (.int .i64 r) := hz4.cell 0
              have v1 : w4.cell? ⟨wr.heap.size + 1, 1, none⟩ = some (.int .i64 su) := hz4.cell 1
              have v2 : w4.cell? ⟨wr.heap.size + 1, 2, none⟩ = some (.int .i64 bb) := hz4.cell 2
              have v3 : w4.cell? ⟨wr.heap.size + 1, 3, none⟩ = some (.int .i64 p) := hz4.cell 3
              have y0 : w4.cell? ⟨g, 0, none⟩ = some (.int .i64 bv.root) := hs4.best.cell 0
              have y1 : w4.cell? ⟨g, 1, none⟩ = some (.int .i64 bv.cost) := hs4.best.cell 1
              have y2 : w4.cell? ⟨g, 2, none⟩ = some (.int .i64 bv.bridge) := hs4.best.cell 2
              have y3 : w4.cell? ⟨g, 3, none⟩ = some (.int .i64 bv.port) := hs4.best.cell 3
              have f0 := hs4.best.frozen 0
              have f1 := hs4.best.frozen 1
              have f2 := hs4.best.frozen 2
              have f3 := hs4.best.frozen 3
              have HS4 := Lib.hid (BestSt.set_ (s' := ⟨r, su, bb, p⟩) hs4)
              clear b4 hs4 hz4 t0 t1 t2 t3 u0 u1 u2 u3
              go_wp2_with fail
              go_roundw
              case rel =>
                rw [HJ.out]
                exact ⟨j + 1, hlt, by rw [Int.natCast_add]; rfl, by rw [HE.out], by rw [HE.out, ← htv'.out]; exact HS4⟩
              case measure =>
                rw [HJ.out]
                show n - ((j : Int) + 1).toNat < n - ((j : Int)).toNat
                omega
    · obtain rfl : n = j := by omega
      obtain ⟨s, hs⟩ : ∃ s, bestTo id l n = s := ⟨_, rfl⟩
      rw [hs] at hS ⊢
      obtain ⟨bv, at_⟩ := s
      have u0 : wr.cell? ⟨g, 0, none⟩ = some (.int .i64 bv.root) := hS.out.best.cell 0
      have u1 : wr.cell? ⟨g, 1, none⟩ = some (.int .i64 bv.cost) := hS.out.best.cell 1
      have u2 : wr.cell? ⟨g, 2, none⟩ = some (.int .i64 bv.bridge) := hS.out.best.cell 2
      have u3 : wr.cell? ⟨g, 3, none⟩ = some (.int .i64 bv.port) := hS.out.best.cell 3
      have v0 : wr.cell? ⟨w.heap.size, 0, none⟩ = some (.int .i64 0) := hS.out.res.cell 0
      have v1 : wr.cell? ⟨w.heap.size, 1, none⟩ = some (.int .i64 0) := hS.out.res.cell 1
      have v2 : wr.cell? ⟨w.heap.size, 2, none⟩ = some (.int .i64 0) := hS.out.res.cell 2
      have v3 : wr.cell? ⟨w.heap.size, 3, none⟩ = some (.int .i64 0) := hS.out.res.cell 3
      have f0 := hS.out.res.frozen 0
      have f1 := hS.out.res.frozen 1
      have f2 := hS.out.res.frozen 2
      have f3 := hS.out.res.frozen 3
      have hres := (((hS.out.res.set_ 0 (.int .i64 bv.root)).set_ 1 (.int .i64 bv.cost)).set_ 2 (.int .i64 bv.bridge)).set_ 3 (.int .i64 bv.port)
      have hbel := (((hS.out.bel.setCell (p := ⟨w.heap.size, 0, none⟩) (Nat.le_refl _) (.int .i64 bv.root)).setCell (p := ⟨w.heap.size, 1, none⟩) (Nat.le_refl _) (.int .i64 bv.cost)).setCell (p := ⟨w.heap.size, 2, none⟩) (Nat.le_refl _) (.int .i64 bv.bridge)).setCell (p := ⟨w.heap.size, 3, none⟩) (Nat.le_refl _) (.int .i64 bv.port)
      have HR := Lib.hid (And.intro hres hbel)
      have HSE := Lib.hid hs
      clear hres hbel hs
      go_wp2_with fail
      exact bodyPost_ret (results_pair rfl _ _ w.heap.size 32 _ rfl HR.out.1 rfl) rfl ⟨by rw [HSE.out]; rfl, HR.out.2⟩
end Go.Proofs.Ytadejdhdkkfliaa
