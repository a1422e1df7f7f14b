/- Roles, as a contract: each port's role, the best, and its port. Its condition: fewer than 2^20 ports. -/
import Derived.Test.YtadejdhdkkfliaaVrole
namespace Go.Proofs.Ytadejdhdkkfliaa
open Go.RowKit
set_option maxRecDepth 100000

theorem bestTo_at (id : Int) (l : List Hd) (j : Nat) : (bestTo id l j).2 = -1 ∧ (bestTo id l j).1 = ownV id ∨ ∃ k : Nat, k < j ∧ (bestTo id l j).2 = k := by
  induction j with
  | zero => exact .inl ⟨rfl, rfl⟩
  | succ j ih =>
    rw [bestTo]
    unfold stepB
    split
    · exact .inr ⟨j, Nat.lt_succ_self _, rfl⟩
    · rcases ih with h | ⟨k, hk, h⟩
      · exact .inl h
      · exact .inr ⟨k, by omega, h⟩
/-- Numbers at block g: of n places the first j are known. -/
def NumsAt (w : World) (g n : Nat) (f : Nat → Int) (j : Nat) : Prop := ∃ cs, Blk w g 3 cs ∧ cs.size = n ∧ ∀ k, k < j → cs[k]? = some (.int .i64 (f k))
theorem Below.drewn {B : Nat} {w w' : World} (h : Below B w.drew w') : Below B w w' := ⟨h.os, h.tape, h.output, h.size, h.block⟩
structure RolesSt (w wr : World) (g gR n : Nat) (best : Vec) (f : Nat → Int) (j : Nat) : Prop where
  res : Blk wr w.heap.size 32 vz.arr
  best : Blk wr g 32 best.arr
  row : NumsAt wr gR n f j
  bel : Below w.heap.size w wr
  ne : w.heap.size < gR
theorem RolesSt.go {w wr w' : World} {g gR n j : Nat} {best : Vec} {f : Nat → Int} (h : RolesSt w wr g gR n best f j) (hb : Below wr.heap.size wr w') : RolesSt w w' g gR n best f j := by
  obtain ⟨cs, hk, h1, h2⟩ := h.row
  exact ⟨h.res.below hb h.res.lt, h.best.below hb h.best.lt, ⟨cs, hk.below hb hk.lt, h1, h2⟩, h.bel.trans (hb.mono h.bel.size), h.ne⟩
theorem RolesSt.cell {w wr : World} {g gR n j : Nat} {best : Vec} {f : Nat → Int} (h : RolesSt w wr g gR n best f j) {k : Nat} (hk : k < n) : (∃ v0, wr.cell? ⟨gR, k, none⟩ = some v0) ∧ wr.frozen? ⟨gR, k, none⟩ = false := by
  obtain ⟨cs, hb, h1, h2⟩ := h.row
  exact ⟨⟨cs[k]'(by omega), by rw [hb.cell, Array.getElem?_eq_getElem (by omega)]⟩, hb.frozen k⟩
theorem RolesSt.next {w wr : World} {g gR n j : Nat} {best : Vec} {f : Nat → Int} (h : RolesSt w wr g gR n best f j) (hj : j < n) : RolesSt w (wr.setCell ⟨gR, j, none⟩ (.int .i64 (f j))) g gR n best f (j + 1) := by
  obtain ⟨cs, hb, h1, h2⟩ := h.row
  have hbr := Blk.set_ hb j (.int .i64 (f j))
  have hne : ∀ g' cs', Blk wr g' 32 cs' → g' ≠ gR := fun g' cs' hg' e => by
    subst e
    unfold Blk at hg' hb
    rw [hg'] at hb
    injection hb with hb
    injection hb with _ hb
    exact absurd hb (by decide)
  refine ⟨h.res.far (hne _ _ h.res) _, h.best.far (hne _ _ h.best) _, ⟨_, hbr, by simp [h1], fun k hk => ?_⟩, h.bel.setCell (Nat.le_of_lt h.ne) _, h.ne⟩
  by_cases e : k = j
  · subst e
    simp [h1, hj]
  · rw [Array.getElem?_setIfInBounds_ne (by omega)]
    exact h2 k (by omega)
theorem RolesSt.far {w wr : World} {g gR n j b : Nat} {t : TypeId} {cs : Array Value} {best : Vec} {f : Nat → Int} (h : RolesSt w wr g gR n best f j) (hb : Blk wr b t cs) (ht : t ≠ 3) (k : Nat) (u : Value) : Blk (wr.setCell ⟨gR, k, none⟩ u) b t cs := by
  obtain ⟨cs', hb', _, _⟩ := h.row
  refine hb.far (fun e => ?_) u
  have e : b = gR := e
  subst e
  unfold Blk at hb hb'
  rw [hb'] at hb
  injection hb with hb
  injection hb with _ hb
  exact ht hb.symm
theorem NumsAt.set_ {w : World} {g n : Nat} {f f' : Nat → Int} (h : NumsAt w g n f n) {k : Nat} (hk : k < n) (hf : ∀ i, i ≠ k → f' i = f i) : NumsAt (w.setCell ⟨g, k, none⟩ (.int .i64 (f' k))) g n f' n := by
  obtain ⟨cs, hb, h1, h2⟩ := h
  refine ⟨_, Blk.set_ hb k _, by simp [h1], fun i hi => ?_⟩
  by_cases e : i = k
  · subst e
    simp [h1, hi]
  · rw [Array.getElem?_setIfInBounds_ne (by omega), hf i e]
    exact h2 i hi
theorem NumsAt.congr {w : World} {g n j : Nat} {f f' : Nat → Int} (h : NumsAt w g n f j) (hf : ∀ i, f' i = f i) : NumsAt w g n f' j := by
  obtain ⟨cs, hb, h1, h2⟩ := h
  exact ⟨cs, hb, h1, fun k hk => by rw [hf]; exact h2 k hk⟩
theorem NumsAt.drew {w : World} {g n j : Nat} {f : Nat → Int} (h : NumsAt w g n f j) : NumsAt w.drew g n f j := h
theorem NumsAt.below {w w' : World} {g n j : Nat} {f : Nat → Int} (h : NumsAt w g n f j) (hb : Below w.heap.size w w') : NumsAt w' g n f j := by
  obtain ⟨cs, hk, h1, h2⟩ := h
  exact ⟨cs, hk.below hb hk.lt, h1, h2⟩
/-- The end: the best is laid out as the result. -/
theorem roles_end {w wr : World} {g gR n : Nat} {best : Vec} {f : Nat → Int} (h : RolesSt w wr g gR n best f n) (v : Vec) :
    Blk ((((wr.setCell ⟨w.heap.size, 0, none⟩ (.int .i64 v.root)).setCell ⟨w.heap.size, 1, none⟩ (.int .i64 v.cost)).setCell ⟨w.heap.size, 2, none⟩ (.int .i64 v.bridge)).setCell ⟨w.heap.size, 3, none⟩ (.int .i64 v.port)) w.heap.size 32 v.arr ∧
    NumsAt ((((wr.setCell ⟨w.heap.size, 0, none⟩ (.int .i64 v.root)).setCell ⟨w.heap.size, 1, none⟩ (.int .i64 v.cost)).setCell ⟨w.heap.size, 2, none⟩ (.int .i64 v.bridge)).setCell ⟨w.heap.size, 3, none⟩ (.int .i64 v.port)) gR n f n ∧
    Below w.heap.size w ((((wr.setCell ⟨w.heap.size, 0, none⟩ (.int .i64 v.root)).setCell ⟨w.heap.size, 1, none⟩ (.int .i64 v.cost)).setCell ⟨w.heap.size, 2, none⟩ (.int .i64 v.bridge)).setCell ⟨w.heap.size, 3, none⟩ (.int .i64 v.port)) := by
  obtain ⟨cs, hb, h1, h2⟩ := h.row
  have hne : ∀ i, gR ≠ (⟨w.heap.size, i, none⟩ : Addr).block := fun i e => Nat.ne_of_lt h.ne e.symm
  refine ⟨(((h.res.set_ 0 _).set_ 1 _).set_ 2 _).set_ 3 _, ⟨cs, (((hb.far (hne 0) _).far (hne 1) _).far (hne 2) _).far (hne 3) _, h1, h2⟩, ?_⟩
  exact (((h.bel.setCell (p := ⟨w.heap.size, 0, none⟩) (Nat.le_refl _) _).setCell (p := ⟨w.heap.size, 1, none⟩) (Nat.le_refl _) _).setCell (p := ⟨w.heap.size, 2, none⟩) (Nat.le_refl _) _).setCell (p := ⟨w.heap.size, 3, none⟩) (Nat.le_refl _) _
theorem results_triple {fn : Func} {s p u : Tmp} (h : fn.results = #[.tmp s, .cell p 32, .tmp u]) (tmps : Array Value) (w : World) (g : Nat) (t : TypeId) (cs : Array Value)
    (hp : tmps.getD p undef = .pointer (some ⟨g, 0, none⟩)) (hg : Blk w g t cs) (hc : cs.size = 4) :
    (results fn tmps).run Try.prog w = .ok (.tuple #[tmps.getD s undef, .agg cs, tmps.getD u undef]) w := by
  have hl := run_loadVar_row w g t 32 cs (0, 0) _ hg Try.underlying32 rfl (by rw [vec_size, hc])
  simp only [results, h]
  have hp' : tmps[p]?.getD undef = .pointer (some ⟨g, 0, none⟩) := by simpa using hp
  simp [Result.andThen, hp', asAddr, hl]
set_option maxHeartbeats 4000000 in
theorem roles_any (A : Option Addr) (c : Nat) (id : Int) (l : List Hd) (w : World) (h : HdAt w w.heap.size A l) (hok : ∀ x ∈ l, x.ok) (hn : l.length ≤ 1048576) :
    Calls Try.prog 55 #[.int .i64 id, .slice A l.length c] w fun e w' => ∃ gR : Nat, e = .returned (.tuple #[.slice (some ⟨gR, 0, none⟩) l.length l.length, (bestTo id l l.length).1.v, .int .i64 (bestTo id l l.length).2]) ∧ NumsAt w' gR l.length (roleAt id l) l.length ∧ w.heap.size ≤ gR ∧ Below w.heap.size w w' := by
  have hat := bestTo_at id l l.length
  have HB := Lib.hid (best_any A c id l (w.alloc (.cells vz.arr 32)) (h.below (bel_alloc w _) |>.more (bel_alloc w _).size) hok hn)
  obtain ⟨n, hnn⟩ : ∃ n, l.length = n := ⟨_, rfl⟩
  have HN := Lib.hid (And.intro hnn (And.intro hok hn))
  have HA := Lib.hid h
  obtain ⟨s, hs⟩ : ∃ s, bestTo id l l.length = s := ⟨_, rfl⟩
  have hroleAt : ∀ i, roleAt id l i = if (i : Int) = s.2 then 1 else roleO id (l.getD i hd0) (offerV s.1 id i) := fun i => by unfold roleAt; rw [hs]
  have HRA := Lib.hid hroleAt
  rw [hs] at HB hat ⊢
  obtain ⟨bv, at_⟩ := s
  rw [hnn] at HB hat ⊢
  have HAT := Lib.hid hat
  have HZ := Lib.hid (And.intro (Blk.new w 32 vz.arr) (bel_alloc w (.cells vz.arr 32)))
  simp only [Vec.v, Vec.arr] at HB ⊢
  clear h hok hn hnn hat hs hroleAt
  go_enter Try.func55, Try.ntmps55
  go_wp2_with fail
  refine HB.out.mono ?_
  rintro e w1 ⟨rfl, b1⟩
  have k0 := HZ.out.1.below b1 HZ.out.1.lt
  have hb1 := HZ.out.2.trans (b1.mono HZ.out.2.size)
  have k1 := Blk.new w1 32 bv.arr
  have hb2 := hb1.alloc hb1.size (.cells bv.arr 32)
  obtain ⟨g, hg⟩ : ∃ g, w1.heap.size = g := ⟨_, rfl⟩
  have hW : ∃ W, w1.alloc (.cells bv.arr 32) = W := ⟨_, rfl⟩
  obtain ⟨W, hW⟩ := hW
  have k0' := k0.alloc (.cells bv.arr 32)
  rw [hW] at k1 hb2 k0'
  rw [hg] at k1
  obtain ⟨i0, hi0, hz0, hz1, hz2⟩ := info_parts int_info
  obtain ⟨w5, hms, hrow, hgr⟩ := run_makeSlice_full (P := Try.prog) (w := W) W.heap.size 47 3 i0 _ 1 Try.underlying47 hi0 hz0 hz1 .i64 .i64 n (by have := HN.out.2.2; have := HN.out.1; omega) (by rw [hz2]; have := HN.out.2.2; have := HN.out.1; omega) (by have := HN.out.2.2; have := HN.out.1; unfold maxLen; omega) (Nat.le_refl _)
  obtain ⟨gR, hgR⟩ : ∃ z, W.heap.size = z := ⟨_, rfl⟩
  have hst : RolesSt w w5 g gR n bv (fun i => roleO id (l.getD i hd0) (offerV bv id i)) 0 := by
    have hb5 : Below W.heap.size W w5 := ⟨hgr.os, hgr.tape, hgr.output, hgr.size, fun k hk => hgr.block k (by omega) (by simp)⟩
    refine ⟨k0'.below hb5 k0'.lt, k1.below hb5 k1.lt, ?_, hb2.trans (hb5.mono hb2.size), by rw [← hgR]; exact k0'.lt⟩
    rcases hrow.2 with ⟨e0, _⟩ | ⟨g', cap', cur, e0, _, hg', _, _, hs', _⟩
    · cases e0
    · injection e0 with e1 _ e3
      injection e1 with e1
      injection e1 with e1
      rw [hgR] at e1
      subst e1 e3
      exact ⟨cur, hg', by rw [hs', Nat.mul_one], fun k hk => absurd hk (Nat.not_lt_zero _)⟩
  rw [hgR] at hms
  have HST := Lib.hid hst
  simp only [Vec.arr] at hW
  clear k0 hb1 k1 hb2 k0' hst hrow hgr hi0 hz0 hz1 hz2 b1
  go_wp2_with fail
  clear hms hW
  go_loopw [23] (fun iv wr => ∃ j : Nat, j ≤ n ∧ iv = .int .i64 j ∧ Hid (RolesSt w wr g gR n bv (fun i => roleO id (l.getD i hd0) (offerV bv id i)) j)) (fun iv _ => n - (intOf iv).toNat)
  case atStart => exact ⟨0, Nat.zero_le _, rfl, HST⟩
  case round =>
    obtain ⟨j, hj, rfl, hS⟩ := hrel
    by_cases hlt : j < n
    · have hmem : l.getD j hd0 ∈ l := by
        have hj' : j < l.length := by rw [HN.out.1]; exact hlt
        rw [List.getD_eq_getElem?_getD, List.getElem?_eq_getElem hj']; exact List.getElem_mem hj'
      have hxok := HN.out.2.1 _ hmem
      obtain ⟨b, off, rfl, hbl, hc⟩ := HA.out j (by rw [HN.out.1]; exact hlt)
      have hc := hc.below hS.out.bel hbl
      obtain ⟨x, hx⟩ : ∃ x, l.getD j hd0 = x := ⟨_, rfl⟩
      rw [hx] at hc hxok
      have hro := fun w => otherRole_any id x (offerV bv id j) hxok.1.1.2 w
      obtain ⟨rv, hrv⟩ : ∃ rv, roleO id x (offerV bv id j) = rv := ⟨_, rfl⟩
      rw [hrv] at hro
      have hof := fun w => offer_any bv id j w
      have hnx : ∀ wz, RolesSt w wz g gR n bv (fun i => roleO id (l.getD i hd0) (offerV bv id i)) j → RolesSt w (wz.setCell ⟨gR, j, none⟩ (.int .i64 rv)) g gR n bv (fun i => roleO id (l.getD i hd0) (offerV bv id i)) (j + 1) := fun wz hz => by
        have := hz.next hlt
        simp only [hx, hrv] at this
        exact this
      have HNX := Lib.hid hnx
      obtain ⟨r, k, bb, p, a, cc, nn⟩ := x
      obtain ⟨q0, q1, q2, q3, q4, q5, q6⟩ := hc
      simp only [Hd.v, Hd.arr, Vec.v, Vec.arr, offerV] at hro hof
      have HRO := Lib.hid hro
      have HOF := Lib.hid hof
      have zx := Blk.new wr 86 (Hd.mk r k bb p a cc nn).arr
      have bal := bel_alloc wr (.cells (Hd.mk r k bb p a cc nn).arr 86)
      have h1 := hS.out.go bal
      have HX := Lib.hid (And.intro zx h1)
      have j1 : (j : Int) < n := by omega
      have j0 : (0 : Int) ≤ j := by omega
      have HJ := Lib.hid (show wrap64 ((j : Int) + 1) = (j : Int) + 1 from IntWalk.wrap64_in _ (by have := HN.out.2.2; have := HN.out.1; omega))
      clear hmem hxok hbl hx hrv hro hof hnx hj zx bal h1
      go_wp2_with fail
      have kd := HX.out.1.drew
      have ks := (HX.out.2.best).drew
      have hs1 := HX.out.2
      obtain ⟨W1, hW1⟩ : ∃ W1, (wr.alloc (.cells (Hd.mk r k bb p a cc nn).arr 86)) = W1 := ⟨_, rfl⟩
      rw [hW1] at kd ks hs1
      simp only [Hd.arr] at hW1
      rw [hW1]
      have HSW := Lib.hid hs1
      have HK := Lib.hid (And.intro kd ks)
      have hbw : Blk W1 wr.heap.size 86 (Hd.mk r k bb p a cc nn).arr := kd
      have hgw : Blk W1 g 32 bv.arr := ks
      clear hW1 hs1 q0 q1 q2 q3 q4 q5 q6 kd ks
      go_region_held3 (fun w' => w'.cell? ⟨wr.heap.size, 0, none⟩ = some (.int .i64 r) ∧ w'.cell? ⟨wr.heap.size, 1, none⟩ = some (.int .i64 k) ∧ w'.cell? ⟨wr.heap.size, 2, none⟩ = some (.int .i64 bb) ∧ w'.cell? ⟨wr.heap.size, 3, none⟩ = some (.int .i64 p) ∧ w'.cell? ⟨wr.heap.size, 4, none⟩ = some (.int .i64 a) ∧ w'.cell? ⟨wr.heap.size, 5, none⟩ = some (.int .i64 cc) ∧ w'.cell? ⟨wr.heap.size, 6, none⟩ = some (.bool nn)
        ∧ w'.cell? ⟨g, 0, none⟩ = some (.int .i64 bv.root) ∧ w'.cell? ⟨g, 1, none⟩ = some (.int .i64 bv.cost) ∧ w'.cell? ⟨g, 2, none⟩ = some (.int .i64 bv.bridge) ∧ w'.cell? ⟨g, 3, none⟩ = some (.int .i64 bv.port))
        (first
          | exact ⟨hbw.cell 0, hbw.cell 1, hbw.cell 2, hbw.cell 3, hbw.cell 4, hbw.cell 5, hbw.cell 6, hgw.cell 0, hgw.cell 1, hgw.cell 2, hgw.cell 3⟩
          | exact ⟨x2.cell 0, x2.cell 1, x2.cell 2, x2.cell 3, x2.cell 4, x2.cell 5, x2.cell 6, y2.cell 0, y2.cell 1, y2.cell 2, y2.cell 3⟩
          | exact ⟨x4.cell 0, x4.cell 1, x4.cell 2, x4.cell 3, x4.cell 4, x4.cell 5, x4.cell 6, y4.cell 0, y4.cell 1, y4.cell 2, y4.cell 3⟩
          | exact ⟨x3.cell 0, x3.cell 1, x3.cell 2, x3.cell 3, x3.cell 4, x3.cell 5, x3.cell 6, y3.cell 0, y3.cell 1, y3.cell 2, y3.cell 3⟩)
        (first
          | (go_at_call 59; (with_reducible (refine (HOF.out _).mono ?_)); rintro e w2 ⟨rfl, b2⟩; have h2 := HSW.out.go (Below.drewn b2); have x2 := hbw.below (Below.drewn b2) hbw.lt; have y2 := hgw.below (Below.drewn b2) hgw.lt)
          | (go_at_call 72; (with_reducible (refine (HRO.out _).mono ?_)); rintro e w3 ⟨rfl, b3⟩; have h3 := h2.go b3; have x3 := x2.below b3 x2.lt; have y3 := y2.below b3 y2.lt; obtain ⟨⟨v0, c0⟩, f0⟩ := h3.cell hlt; have x4 := h3.far x3 (by decide) j (.int .i64 rv); have y4 := h3.far y3 (by decide) j (.int .i64 rv)))
      all_goals
        have HN3 := Lib.hid (HNX.out _ h3)
        clear h2 x2 y2 h3 x3 y3 x4 y4 b2 b3 c0 f0 hbw hgw
        go_wp2_with fail
        go_roundw
        case rel =>
          rw [HJ.out]
          exact ⟨j + 1, hlt, by rw [Int.natCast_add]; rfl, HN3⟩
        case measure =>
          rw [HJ.out]
          show n - ((j : Int) + 1).toNat < n - ((j : Int)).toNat
          omega
    · obtain rfl : n = j := by omega
      rcases HAT.out with ⟨hm1, -⟩ | ⟨kk, hkk, rfl⟩
      · subst hm1
        have u0 : wr.cell? ⟨g, 0, none⟩ = some (.int .i64 bv.root) := hS.out.best.cell 0
        have u1 : wr.cell? ⟨g, 1, none⟩ = some (.int .i64 bv.cost) := hS.out.best.cell 1
        have u2 : wr.cell? ⟨g, 2, none⟩ = some (.int .i64 bv.bridge) := hS.out.best.cell 2
        have u3 : wr.cell? ⟨g, 3, none⟩ = some (.int .i64 bv.port) := hS.out.best.cell 3
        have v0 : wr.cell? ⟨w.heap.size, 0, none⟩ = some (.int .i64 0) := hS.out.res.cell 0
        have v1 : wr.cell? ⟨w.heap.size, 1, none⟩ = some (.int .i64 0) := hS.out.res.cell 1
        have v2 : wr.cell? ⟨w.heap.size, 2, none⟩ = some (.int .i64 0) := hS.out.res.cell 2
        have v3 : wr.cell? ⟨w.heap.size, 3, none⟩ = some (.int .i64 0) := hS.out.res.cell 3
        have f0 := hS.out.res.frozen 0
        have f1 := hS.out.res.frozen 1
        have f2 := hS.out.res.frozen 2
        have f3 := hS.out.res.frozen 3
        have HE := Lib.hid (roles_end hS.out bv)
        go_wp2_with fail
        go_region
        go_wp2_with fail
        exact bodyPost_ret (results_triple rfl _ _ w.heap.size 32 _ rfl HE.out.1.drew rfl) rfl ⟨gR, rfl, HE.out.2.1.drew.congr (fun i => by rw [HRA.out]; exact if_neg (by omega)), Nat.le_of_lt hS.out.ne, HE.out.2.2.drew⟩
      · obtain ⟨⟨c0v, c0⟩, f0⟩ := hS.out.cell hkk
        have hw9 : RolesSt w (wr.setCell ⟨gR, kk, none⟩ (.int .i64 1)) g gR n bv (roleAt id l) n := by
          refine ⟨hS.out.far hS.out.res (by decide) _ _, hS.out.far hS.out.best (by decide) _ _, ?_, hS.out.bel.setCell (Nat.le_of_lt hS.out.ne) _, hS.out.ne⟩
          have h1 : roleAt id l kk = 1 := by rw [HRA.out]; exact if_pos rfl
          have := hS.out.row.set_ (f' := roleAt id l) hkk (fun i hi => by rw [HRA.out]; exact if_neg (by omega))
          rw [h1] at this
          exact this
        have k0 : (0 : Int) ≤ kk := by omega
        have k1 : (kk : Int) < n := by omega
        have HW9 := Lib.hid hw9
        clear hw9
        go_wp2_with fail
        obtain ⟨W9, hW9⟩ : ∃ W9, wr.setCell ⟨gR, kk, none⟩ (.int .i64 1) = W9 := ⟨_, rfl⟩
        rw [hW9] at HW9 ⊢
        have u0 : W9.cell? ⟨g, 0, none⟩ = some (.int .i64 bv.root) := HW9.out.best.cell 0
        have u1 : W9.cell? ⟨g, 1, none⟩ = some (.int .i64 bv.cost) := HW9.out.best.cell 1
        have u2 : W9.cell? ⟨g, 2, none⟩ = some (.int .i64 bv.bridge) := HW9.out.best.cell 2
        have u3 : W9.cell? ⟨g, 3, none⟩ = some (.int .i64 bv.port) := HW9.out.best.cell 3
        have v0 : W9.cell? ⟨w.heap.size, 0, none⟩ = some (.int .i64 0) := HW9.out.res.cell 0
        have v1 : W9.cell? ⟨w.heap.size, 1, none⟩ = some (.int .i64 0) := HW9.out.res.cell 1
        have v2 : W9.cell? ⟨w.heap.size, 2, none⟩ = some (.int .i64 0) := HW9.out.res.cell 2
        have v3 : W9.cell? ⟨w.heap.size, 3, none⟩ = some (.int .i64 0) := HW9.out.res.cell 3
        have g0 := HW9.out.res.frozen 0
        have g1 := HW9.out.res.frozen 1
        have g2 := HW9.out.res.frozen 2
        have g3 := HW9.out.res.frozen 3
        have HE := Lib.hid (roles_end HW9.out bv)
        clear hW9 c0 f0
        go_region
        go_wp2_with fail
        exact bodyPost_ret (results_triple rfl _ _ w.heap.size 32 _ rfl HE.out.1.drew rfl) rfl ⟨gR, rfl, HE.out.2.1.drew, Nat.le_of_lt hS.out.ne, HE.out.2.2.drew⟩
end Go.Proofs.Ytadejdhdkkfliaa
