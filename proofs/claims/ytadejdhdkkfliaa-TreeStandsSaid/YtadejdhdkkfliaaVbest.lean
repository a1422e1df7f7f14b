/- Best, as a contract: the best of what a bridge says of itself and what it heard. Its condition: fewer than 2^20 ports. -/
import Derived.Test.YtadejdhdkkfliaaVuse
namespace Go.Proofs.Ytadejdhdkkfliaa
open Go.RowKit
set_option maxRecDepth 100000

def stepB (id : Int) (s : Vec × Int) (k : Nat) (h : Hd) : Vec × Int := if useB id h = true ∧ h.root < id ∧ ltV (throughV h.vec h.way) s.1 then (throughV h.vec h.way, (k : Int)) else s
/-- The best by the first j ports, and its port. -/
def bestTo (id : Int) (l : List Hd) : Nat → Vec × Int
  | 0 => (ownV id, -1)
  | j + 1 => stepB id (bestTo id l j) j (l.getD j hd0)
def vz : Vec := ⟨0, 0, 0, 0⟩
structure BestSt (w wr : World) (g : Nat) (s : Vec) : Prop where
  res : Blk wr w.heap.size 32 vz.arr
  best : Blk wr g 32 s.arr
  bel : Below w.heap.size w wr
  ne : w.heap.size < g
theorem BestSt.go {w wr w' : World} {g : Nat} {s : Vec} (h : BestSt w wr g s) (hb : Below wr.heap.size wr w') : BestSt w w' g s :=
  ⟨h.res.below hb h.res.lt, h.best.below hb h.best.lt, h.bel.trans (hb.mono h.bel.size), h.ne⟩
theorem BestSt.set_ {w wr : World} {g : Nat} {s s' : Vec} (h : BestSt w wr g s) : BestSt w ((((wr.setCell ⟨g, 0, none⟩ (.int .i64 s'.root)).setCell ⟨g, 1, none⟩ (.int .i64 s'.cost)).setCell ⟨g, 2, none⟩ (.int .i64 s'.bridge)).setCell ⟨g, 3, none⟩ (.int .i64 s'.port)) g s' := by
  have hne : ∀ i, w.heap.size ≤ (⟨g, i, none⟩ : Addr).block := fun i => Nat.le_of_lt h.ne
  have hf : ∀ i, g ≠ (⟨g, i, none⟩ : Addr).block → False := fun i e => e rfl
  refine ⟨?_, (((h.best.set_ 0 (.int .i64 s'.root)).set_ 1 (.int .i64 s'.cost)).set_ 2 (.int .i64 s'.bridge)).set_ 3 (.int .i64 s'.port), (((h.bel.setCell (hne 0) _).setCell (hne 1) _).setCell (hne 2) _).setCell (hne 3) _, h.ne⟩
  have hk : ∀ i, w.heap.size ≠ (⟨g, i, none⟩ : Addr).block := fun i => Nat.ne_of_lt h.ne
  exact (((h.res.far (hk 0) _).far (hk 1) _).far (hk 2) _).far (hk 3) _
theorem results_pair {fn : Func} {p u : Tmp} (h : fn.results = #[.cell p 32, .tmp u]) (tmps : Array Value) (w : World) (g : Nat) (t : TypeId) (cs : Array Value)
    (hp : tmps.getD p undef = .pointer (some ⟨g, 0, none⟩)) (hg : Blk w g t cs) (hc : cs.size = 4) :
    (results fn tmps).run Try.prog w = .ok (.tuple #[.agg cs, tmps.getD u undef]) w := by
  have hl := run_loadVar_row w g t 32 cs (0, 0) _ hg Try.underlying32 rfl (by rw [vec_size, hc])
  rw [results_cell_tmp h, hp]
  show ((loadVar 32 ⟨g, 0, none⟩).run Try.prog w).andThen _ = _
  rw [hl]
  rfl
set_option maxHeartbeats 4000000 in
theorem best_any (A : Option Addr) (c : Nat) (id : Int) (l : List Hd) (w : World) (h : HdAt w w.heap.size A l) (hok : ∀ x ∈ l, x.ok) (hn : l.length ≤ 1048576) :
    Calls Try.prog 71 #[.int .i64 id, .slice A l.length c] w fun e w' => e = .returned (.tuple #[(bestTo id l l.length).1.v, .int .i64 (bestTo id l l.length).2]) ∧ Below w.heap.size w w' := by
  obtain ⟨n, hnn⟩ : ∃ n, l.length = n := ⟨_, rfl⟩
  have HN := Lib.hid (And.intro hnn (And.intro hok hn))
  have HA := Lib.hid h
  rw [hnn]
  have HZ := Lib.hid (And.intro (Blk.new w 32 vz.arr) (bel_alloc w (.cells vz.arr 32)))
  clear h hok hn hnn
  go_enter Try.func71, Try.ntmps71
  go_wp2_with fail
  refine (own_any id _).mono ?_
  rintro e w1 ⟨rfl, b1⟩
  simp only [Vec.v, Vec.arr, ownV]
  have hst : BestSt w (w1.alloc (.cells (ownV id).arr 32)) w1.heap.size (ownV id) :=
    ⟨(HZ.out.1.below b1 HZ.out.1.lt).alloc _, Blk.new w1 _ _, (HZ.out.2.trans (b1.mono HZ.out.2.size)).alloc (Nat.le_trans HZ.out.2.size b1.size) _, Nat.lt_of_lt_of_le HZ.out.1.lt b1.size⟩
  have HST := Lib.hid hst
  obtain ⟨g, hg⟩ : ∃ g, w1.heap.size = g := ⟨_, rfl⟩
  rw [hg] at HST
  clear hst b1
  go_wp2_with fail
  clear hg
  go_loopw [7, 15] (fun av iv wr => ∃ (j : Nat), j ≤ n ∧ iv = .int .i64 j ∧ av = .int .i64 (bestTo id l j).2 ∧ Hid (BestSt w wr g (bestTo id l j).1)) (fun _ iv _ => n - (intOf iv).toNat)
  case atStart => exact ⟨0, Nat.zero_le _, rfl, rfl, HST⟩
  case round =>
    obtain ⟨j, hj, rfl, rfl, hS⟩ := hrel
    by_cases hlt : j < n
    · have hstep : bestTo id l (j + 1) = stepB id (bestTo id l j) j (l.getD j hd0) := rfl
      have hmem : l.getD j hd0 ∈ l := by
        have hj' : j < l.length := by rw [HN.out.1]; exact hlt
        rw [List.getD_eq_getElem?_getD, List.getElem?_eq_getElem hj']; exact List.getElem_mem hj'
      have hxok := HN.out.2.1 _ hmem
      obtain ⟨b, off, rfl, hbl, hc⟩ := HA.out j (by rw [HN.out.1]; exact hlt)
      have hc := hc.below hS.out.bel hbl
      obtain ⟨x, hx⟩ : ∃ x, l.getD j hd0 = x := ⟨_, rfl⟩
      rw [hx] at hc hxok hstep
      obtain ⟨s, hs⟩ : ∃ s, bestTo id l j = s := ⟨_, rfl⟩
      rw [hs] at hS hstep ⊢
      obtain ⟨bv, at_⟩ := s
      obtain ⟨r, k, bb, p, a, cc, nn⟩ := x
      obtain ⟨q0, q1, q2, q3, q4, q5, q6⟩ := hc
      have hr : r ≤ 9223372036854775807 := hxok.1.1.2
      have HU := Lib.hid (fun w => useful_any id ⟨r, k, bb, p, a, cc, nn⟩ hr w)
      simp only [Hd.v, Hd.arr] at HU
      have zx := Blk.new wr 86 (Hd.mk r k bb p a cc nn).arr
      have bal := bel_alloc wr (.cells (Hd.mk r k bb p a cc nn).arr 86)
      have HX := Lib.hid (And.intro zx bal)
      have HST2 := Lib.hid (And.intro hstep hxok)
      have j1 : (j : Int) < n := by omega
      have j0 : (0 : Int) ≤ j := by omega
      have HJ := Lib.hid (show wrap64 ((j : Int) + 1) = (j : Int) + 1 from IntWalk.wrap64_in _ (by have := HN.out.2.2; have := HN.out.1; omega))
      clear hstep hxok hmem hbl hx hs zx bal hr hj
      cases hu : useB id ⟨r, k, bb, p, a, cc, nn⟩
      · rw [hu] at HU
        have HE := Lib.hid (show bestTo id l (j + 1) = (bv, at_) by rw [HST2.out.1]; simp [stepB, hu])
        clear hu
        go_wp2_with fail
        refine (HU.out _).mono ?_
        rintro e w2 ⟨rfl, b2⟩
        have HB := Lib.hid (hS.out.go (HX.out.2.trans (b2.mono HX.out.2.size)))
        clear b2 q0 q1 q2 q3 q4 q5 q6
        go_wp2_with fail
        go_roundw
        case rel =>
          rw [HJ.out]
          exact ⟨j + 1, hlt, by rw [Int.natCast_add]; rfl, by rw [HE.out], by rw [HE.out]; exact HB⟩
        case measure =>
          rw [HJ.out]
          show n - ((j : Int) + 1).toNat < n - ((j : Int)).toNat
          omega
      · rw [hu] at HU
        have HUU := Lib.hid hu
        clear hu
        go_wp2_with fail
        refine (HU.out _).mono ?_
        rintro e w2 ⟨rfl, b2⟩
        have hX2 := HX.out.1.below b2 HX.out.1.lt
        have y0 : w2.cell? ⟨wr.heap.size, 0, none⟩ = some (.int .i64 r) := hX2.cell 0
        have y1 : w2.cell? ⟨wr.heap.size, 1, none⟩ = some (.int .i64 k) := hX2.cell 1
        have y2 : w2.cell? ⟨wr.heap.size, 2, none⟩ = some (.int .i64 bb) := hX2.cell 2
        have y3 : w2.cell? ⟨wr.heap.size, 3, none⟩ = some (.int .i64 p) := hX2.cell 3
        have y5 : w2.cell? ⟨wr.heap.size, 5, none⟩ = some (.int .i64 cc) := hX2.cell 5
        have HB := Lib.hid (And.intro (hS.out.go (HX.out.2.trans (b2.mono HX.out.2.size))) hX2)
        clear b2 q0 q1 q2 q3 q4 q5 q6 hX2
        by_cases hri : id ≤ r
        · have HE := Lib.hid (show bestTo id l (j + 1) = (bv, at_) by rw [HST2.out.1]; simp [stepB]; omega)
          go_wp2_with fail
          go_roundw
          case rel =>
            rw [HJ.out]
            exact ⟨j + 1, hlt, by rw [Int.natCast_add]; rfl, by rw [HE.out], by rw [HE.out]; exact Lib.hid HB.out.1⟩
          case measure =>
            rw [HJ.out]
            show n - ((j : Int) + 1).toNat < n - ((j : Int)).toNat
            omega
        · have hri' : r < id := by omega
          have HT := Lib.hid (fun w => through_any ⟨r, k, bb, p⟩ cc HST2.out.2.1.2.1 HST2.out.2.2.2 w)
          simp only [Vec.v, Vec.arr] at HT
          obtain ⟨tv, htv⟩ : ∃ tv, throughV ⟨r, k, bb, p⟩ cc = tv := ⟨_, rfl⟩
          rw [htv] at HT
          have HTV := Lib.hid htv
          clear htv
          go_wp2_with fail
          refine (HT.out _).mono ?_
          rintro e w3 ⟨rfl, b3⟩
          have hst3 := (HB.out.1.go b3).go (bel_alloc w3 (.cells tv.arr 32))
          have zt := Blk.new w3 32 tv.arr
          have HST3 := Lib.hid (And.intro hst3 zt)
          have z0 : (w3.alloc (.cells tv.arr 32)).cell? ⟨g, 0, none⟩ = some (.int .i64 bv.root) := hst3.best.cell 0
          have z1 : (w3.alloc (.cells tv.arr 32)).cell? ⟨g, 1, none⟩ = some (.int .i64 bv.cost) := hst3.best.cell 1
          have z2 : (w3.alloc (.cells tv.arr 32)).cell? ⟨g, 2, none⟩ = some (.int .i64 bv.bridge) := hst3.best.cell 2
          have z3 : (w3.alloc (.cells tv.arr 32)).cell? ⟨g, 3, none⟩ = some (.int .i64 bv.port) := hst3.best.cell 3
          simp only [Vec.arr] at z0 z1 z2 z3
          have HBE := Lib.hid (fun w => better_any tv bv w)
          simp only [Vec.v, Vec.arr] at HBE
          clear b3 hst3 zt
          cases hlv : decide (ltV tv bv)
          · rw [hlv] at HBE
            have HE := Lib.hid (show bestTo id l (j + 1) = (bv, at_) by
              rw [HST2.out.1]
              unfold stepB
              exact if_neg fun h => absurd h.2.2 (by rw [show throughV (Hd.mk r k bb p a cc nn).vec (Hd.mk r k bb p a cc nn).way = tv from HTV.out]; exact of_decide_eq_false hlv))
            clear hlv
            go_wp2_with fail
            refine (HBE.out _).mono ?_
            rintro e w4 ⟨rfl, b4⟩
            have HS4 := Lib.hid (HST3.out.1.go b4)
            clear b4
            go_wp2_with fail
            go_roundw
            case rel =>
              rw [HJ.out]
              exact ⟨j + 1, hlt, by rw [Int.natCast_add]; rfl, by rw [HE.out], by rw [HE.out]; exact HS4⟩
            case measure =>
              rw [HJ.out]
              show n - ((j : Int) + 1).toNat < n - ((j : Int)).toNat
              omega
          · rw [hlv] at HBE
            have HE := Lib.hid (show bestTo id l (j + 1) = (tv, (j : Int)) by
              rw [HST2.out.1]
              unfold stepB
              rw [show throughV (Hd.mk r k bb p a cc nn).vec (Hd.mk r k bb p a cc nn).way = tv from HTV.out]
              exact if_pos ⟨HUU.out, hri', of_decide_eq_true hlv⟩)
            clear hlv
            go_wp2_with fail
            refine (HBE.out _).mono ?_
            rintro e w4 ⟨rfl, b4⟩
            have hs4 := HST3.out.1.go b4
            have hz4 := HST3.out.2.below b4 HST3.out.2.lt
            have v0 : w4.cell? ⟨w3.heap.size, 0, none⟩ = some (.int .i64 tv.root) := hz4.cell 0
            have v1 : w4.cell? ⟨w3.heap.size, 1, none⟩ = some (.int .i64 tv.cost) := hz4.cell 1
            have v2 : w4.cell? ⟨w3.heap.size, 2, none⟩ = some (.int .i64 tv.bridge) := hz4.cell 2
            have v3 : w4.cell? ⟨w3.heap.size, 3, none⟩ = some (.int .i64 tv.port) := hz4.cell 3
            have u0 : w4.cell? ⟨g, 0, none⟩ = some (.int .i64 bv.root) := hs4.best.cell 0
            have u1 : w4.cell? ⟨g, 1, none⟩ = some (.int .i64 bv.cost) := hs4.best.cell 1
            have u2 : w4.cell? ⟨g, 2, none⟩ = some (.int .i64 bv.bridge) := hs4.best.cell 2
            have u3 : w4.cell? ⟨g, 3, none⟩ = some (.int .i64 bv.port) := hs4.best.cell 3
            have f0 := hs4.best.frozen 0
            have f1 := hs4.best.frozen 1
            have f2 := hs4.best.frozen 2
            have f3 := hs4.best.frozen 3
            have HS4 := Lib.hid (BestSt.set_ (s' := tv) hs4)
            clear b4 hs4 hz4
            go_wp2_with fail
            go_roundw
            case rel =>
              rw [HJ.out]
              exact ⟨j + 1, hlt, by rw [Int.natCast_add]; rfl, by rw [HE.out], by rw [HE.out]; exact HS4⟩
            case measure =>
              rw [HJ.out]
              show n - ((j : Int) + 1).toNat < n - ((j : Int)).toNat
              omega
    · obtain rfl : n = j := by omega
      obtain ⟨s, hs⟩ : ∃ s, bestTo id l n = s := ⟨_, rfl⟩
      rw [hs] at hS ⊢
      obtain ⟨bv, at_⟩ := s
      have u0 : wr.cell? ⟨g, 0, none⟩ = some (.int .i64 bv.root) := hS.out.best.cell 0
      have u1 : wr.cell? ⟨g, 1, none⟩ = some (.int .i64 bv.cost) := hS.out.best.cell 1
      have u2 : wr.cell? ⟨g, 2, none⟩ = some (.int .i64 bv.bridge) := hS.out.best.cell 2
      have u3 : wr.cell? ⟨g, 3, none⟩ = some (.int .i64 bv.port) := hS.out.best.cell 3
      have v0 : wr.cell? ⟨w.heap.size, 0, none⟩ = some (.int .i64 0) := hS.out.res.cell 0
      have v1 : wr.cell? ⟨w.heap.size, 1, none⟩ = some (.int .i64 0) := hS.out.res.cell 1
      have v2 : wr.cell? ⟨w.heap.size, 2, none⟩ = some (.int .i64 0) := hS.out.res.cell 2
      have v3 : wr.cell? ⟨w.heap.size, 3, none⟩ = some (.int .i64 0) := hS.out.res.cell 3
      have f0 := hS.out.res.frozen 0
      have f1 := hS.out.res.frozen 1
      have f2 := hS.out.res.frozen 2
      have f3 := hS.out.res.frozen 3
      have hres := (((hS.out.res.set_ 0 (.int .i64 bv.root)).set_ 1 (.int .i64 bv.cost)).set_ 2 (.int .i64 bv.bridge)).set_ 3 (.int .i64 bv.port)
      have hbel := (((hS.out.bel.setCell (p := ⟨w.heap.size, 0, none⟩) (Nat.le_refl _) (.int .i64 bv.root)).setCell (p := ⟨w.heap.size, 1, none⟩) (Nat.le_refl _) (.int .i64 bv.cost)).setCell (p := ⟨w.heap.size, 2, none⟩) (Nat.le_refl _) (.int .i64 bv.bridge)).setCell (p := ⟨w.heap.size, 3, none⟩) (Nat.le_refl _) (.int .i64 bv.port)
      have HR := Lib.hid (And.intro hres hbel)
      have HSE := Lib.hid hs
      clear hres hbel hs
      go_wp2_with fail
      exact bodyPost_ret (results_pair rfl _ _ w.heap.size 32 _ rfl HR.out.1 rfl) rfl ⟨by rw [HSE.out]; rfl, HR.out.2⟩
end Go.Proofs.Ytadejdhdkkfliaa
