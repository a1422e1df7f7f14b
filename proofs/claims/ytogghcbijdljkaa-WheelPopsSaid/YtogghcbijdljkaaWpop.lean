/- Pop: what is late, in order; the others stay. Its condition: fewer than 2^20 timers. -/
import Derived.Test.YtogghcbijdljkaaWdel2
namespace Go.Proofs.Ytogghcbijdljkaa
open Go.RowKit
set_option maxRecDepth 100000

/-- The ones that are late. -/
def lateT (now : Int) (l : List Tm) : List Tm := l.filter (lateB now)
theorem late_take (now : Int) (l : List Tm) (j : Nat) (hj : j < l.length) : lateT now (l.take (j + 1)) = lateT now (l.take j) ++ (if lateB now (l.getD j tm0) then [l.getD j tm0] else []) := by
  have e : l.getD j tm0 = l[j] := by simp [List.getD_eq_getElem?_getD, List.getElem?_eq_getElem hj]
  rw [List.take_succ_eq_append_getElem hj, e]
  unfold lateT
  rw [List.filter_append]
  congr 1
  cases h : lateB now l[j] <;> simp [h]
theorem late_length (now : Int) (l : List Tm) : (lateT now l).length ≤ l.length := List.length_filter_le _ _
/-- The keys lie as a row of numbers at block g. -/
def KeysAt (w : World) (g : Nat) (l : List Tm) (j : Nat) : Prop := ∃ cs, Blk w g 3 cs ∧ cs.size = l.length ∧ ∀ k, k < j → cs[k]? = some (.int .i64 (l.getD k tm0).key)
structure PopSt (w0 wr : World) (c1 : Nat) (A1 : Option Addr) (P : List Tm) (now : Int) : Prop where
  bn : Blk wr w0.heap.size 3 #[.int .i64 now]
  own : OwnT wr (w0.heap.size + 1) A1 c1 P
  bel : Below w0.heap.size w0 wr
set_option maxRecDepth 100000 in
set_option maxHeartbeats 4000000 in
theorem pop_any (g : Nat) (l : List Tm) (now : Int) (w : World) (h : WheelAt w g l) :
    Calls Try.prog 17 #[.pointer (some ⟨g, 0, none⟩), .int .i64 now] w fun e w' => ∃ gM : Nat, e = .returned (.slice (some ⟨gM, 0, none⟩) (sortT (lateT now l)).length (sortT (lateT now l)).length) ∧ KeysAt w' gM (sortT (lateT now l)) (sortT (lateT now l)).length ∧ w.heap.size ≤ gM ∧
      WheelAt w' g (keepT now l) ∧ Touch (WFoot w g) w w' ∧ (∀ k, WFoot w' g k → WFoot w g k ∨ w.heap.size ≤ k) := by
  have hup := h.up
  have hfew := h.few
  obtain ⟨A, c, hb, ho⟩ := h.row
  have hgl := hb.lt
  have hA := ho.at_
  have zb := Blk.new w 3 #[.int .i64 now]
  have bel := bel_alloc w (.cells #[.int .i64 now] 3)
  obtain ⟨n, hnn⟩ : ∃ n, l.length = n := ⟨_, rfl⟩
  have HN := Lib.hid hnn
  have HN5 := Lib.hid hfew
  have HA := Lib.hid hA
  have HW := Lib.hid (And.intro hb ho)
  have HUP := Lib.hid hup
  have HZB := Lib.hid (And.intro zb bel)
  have c0 : (w.alloc (.cells #[.int .i64 now] 3)).cell? ⟨g, 0, none⟩ = some (.slice A n c) := by
    rw [← hnn]; exact (hb.alloc _).cell 0
  clear h hup hfew hb ho hA zb bel hnn hgl
  go_enter Try.func17, Try.ntmps17
  go_wp2_with fail
  clear c0
  obtain ⟨W, hW⟩ : ∃ W, w.alloc (.cells #[.int .i64 now] 3) = W := ⟨_, rfl⟩
  rw [hW] at HZB ⊢
  clear hW
  go_loopw [6, 20] (fun pv iv wr => ∃ (j : Nat) (A1 : Option Addr) (c1 : Nat), j ≤ n ∧ iv = .int .i64 j ∧ pv = .slice A1 (lateT now (l.take j)).length c1 ∧ Hid (PopSt w wr c1 A1 (lateT now (l.take j)) now)) (fun _ iv _ => n - (intOf iv).toNat)
  case atStart => exact ⟨0, none, 0, Nat.zero_le _, rfl, rfl, Lib.hid ⟨HZB.out.1, World.ownsRow_nil _ _ _ _, HZB.out.2⟩⟩
  case round =>
    obtain ⟨j, A1, c1, hj, rfl, rfl, hS⟩ := hrel
    by_cases hlt : j < n
    · obtain ⟨x, hx⟩ : ∃ x, l.getD j tm0 = x := ⟨_, rfl⟩
      obtain ⟨b, off, eb, hbl, p0, p1⟩ := HA.out j (by rw [HN.out]; exact hlt)
      subst eb
      rw [hx] at p0 p1
      have q0 : wr.cell? ⟨b, off + j * 2, none⟩ = some (.int .i64 x.due) := (hS.out.bel.cell (p := ⟨b, off + j * 2, none⟩) hbl).trans p0
      have q1 : wr.cell? ⟨b, off + j * 2 + 1, none⟩ = some (.int .i64 x.key) := (hS.out.bel.cell (p := ⟨b, off + j * 2 + 1, none⟩) hbl).trans p1
      have hbn1 := hS.out.bn.alloc (.cells #[.int .i64 x.due, .int .i64 x.key] 46)
      have hcl := late_any w.heap.size now x _ (hbn1.cell 0) hbn1.lt
      have bal := (Below.refl wr.heap.size wr).alloc (Nat.le_refl _) (.cells #[.int .i64 x.due, .int .i64 x.key] 46)
      have zx := Blk.new wr 46 #[.int .i64 x.due, .int .i64 x.key]
      have hlk := late_take now l j (by rw [HN.out]; exact hlt)
      rw [hx] at hlk
      have j1 : (j : Int) < n := by omega
      have j0 : (0 : Int) ≤ j := by omega
      have HJ := Lib.hid (show wrap64 ((j : Int) + 1) = (j : Int) + 1 from IntWalk.wrap64_in _ (by have := HN5.out; have := HN.out; omega))
      have HAL := Lib.hid (And.intro bal zx)
      clear p0 p1 hbl hx hbn1 bal zx hj
      cases hlb : lateB now x with
      | false =>
        rw [hlb] at hcl hlk
        simp only [Bool.false_eq_true, if_false, List.append_nil] at hlk
        have HCL := Lib.hid hcl
        have HLK := Lib.hid hlk
        have jw := HJ.out
        clear hcl hlb hlk
        go_wp2_with fail
        refine HCL.out.mono ?_
        rintro e w2 ⟨rfl, b2⟩
        have HB3 := Lib.hid (HAL.out.1.trans (b2.mono HAL.out.1.size))
        clear b2
        go_wp2_with fail
        go_roundw
        case rel =>
          rw [jw]
          refine ⟨j + 1, A1, c1, hlt, by rw [Int.natCast_add]; rfl, by rw [HLK.out], Lib.hid ?_⟩
          rw [HLK.out]
          exact ⟨hS.out.bn.below HB3.out hS.out.bn.lt, own_heap hS.out.own fun k hk => HB3.out.block k (World.ownsRow.lt hS.out.own k hk).2, hS.out.bel.trans (HB3.out.mono hS.out.bel.size)⟩
        case measure =>
          rw [jw]
          show n - ((j : Int) + 1).toNat < n - ((j : Int)).toNat
          omega
      | true =>
        rw [hlb] at hcl hlk
        simp only [if_true] at hlk
        have HCL := Lib.hid hcl
        have HLK := Lib.hid hlk
        clear hcl hlb hlk
        go_wp2_with fail
        refine HCL.out.mono ?_
        rintro e w2 ⟨rfl, b2⟩
        have b3 := HAL.out.1.trans (b2.mono HAL.out.1.size)
        have zx2 := HAL.out.2.below b2 HAL.out.2.lt
        have x0 := zx2.cell 0
        have x1 := zx2.cell 1
        have ho2 : OwnT w2 (w.heap.size + 1) A1 c1 (lateT now (l.take j)) := own_heap hS.out.own fun k hk => b3.block k (World.ownsRow.lt hS.out.own k hk).2
        have hbn2 : Blk w2 w.heap.size 3 #[.int .i64 now] := hS.out.bn.below b3 hS.out.bn.lt
        have hbw2 := hS.out.bel.trans (b3.mono hS.out.bel.size)
        have zn := Blk.new w2 46 #[.int .i64 x.due, .int .i64 x.key]
        have hbs : w.heap.size + 1 ≤ w2.heap.size := by have := hbn2.lt; omega
        have hlen : (lateT now (l.take j)).length ≤ 1048000 := Nat.le_trans (late_length _ _) (by rw [List.length_take]; have := HN5.out; omega)
        obtain ⟨a', c', w3, hr, ho3, hg3, _, _⟩ := append_tms (w2.alloc (.cells #[.int .i64 x.due, .int .i64 x.key] 46)) (w.heap.size + 1) A1 c1 (lateT now (l.take j)) (ho2.alloc _) (some ⟨w2.heap.size, 0, none⟩) 1 (w2.heap.size + 1) [x] (fun h => by cases h)
          (fun q hq => by
            obtain rfl : q = 0 := by simpa using hq
            exact ⟨w2.heap.size, 0, rfl, by omega, zn.cell 0, zn.cell 1⟩) (by simp; omega) (Nat.le_trans hbs (by simp))
        rw [← HLK.out] at hr ho3
        have hend : PopSt w w3 c' a' (lateT now (l.take (j + 1))) now :=
          ⟨blk_grown (hbn2.alloc _) (ho2.alloc _) (by decide) hg3, ho3, (hbw2.alloc hbw2.size _).trans (bel_own (ho2.alloc _) hg3 (by omega) (Nat.le_trans hbw2.size (by simp)))⟩
        obtain ⟨m1, hm1⟩ : ∃ m, (lateT now (l.take j)).length = m := ⟨_, rfl⟩
        obtain ⟨m2, hm2⟩ : ∃ m, (lateT now (l.take (j + 1))).length = m := ⟨_, rfl⟩
        rw [hm1, hm2] at hr
        rw [show [x].length = 1 from rfl] at hr
        have HR := Lib.hid hr
        have HEND := Lib.hid hend
        have HM2 := Lib.hid hm2
        have jw := HJ.out
        clear b2 b3 zx2 ho2 hbn2 hbw2 zn hbs hlen hr ho3 hg3 hend hm2 hS
        rw [hm1]
        clear hm1
        go_wp2_with (at_builtin; refine Lib.wpList_append_run _ rfl _ _ _ _ rfl _ _ rfl rfl _ _ HR.out ?_)
        go_roundw
        case rel =>
          rw [jw]
          exact ⟨j + 1, a', c', hlt, by rw [Int.natCast_add]; rfl, by rw [HM2.out], HEND⟩
        case measure =>
          rw [jw]
          show n - ((j : Int) + 1).toNat < n - ((j : Int)).toNat
          omega
    · obtain rfl : n = j := by omega
      rw [show l.take n = l by rw [← HN.out, List.take_length]] at hS ⊢
      obtain ⟨hb, ho⟩ := HW.out
      have hb1 := hb.below hS.out.bel hb.lt
      have ho1 : OwnT wr 0 A c l := own_heap ho fun k hk => hS.out.bel.block k (World.ownsRow.lt ho k hk).2
      have hdel := del_any A c l w.heap.size now 0 wr ho1 HN5.out hS.out.bn
      have hfoot : ∀ j, (j = g ∨ (Value.slice A l.length c).ownBlock = some j) → WFoot w g j := fun j hj => by
        rcases hj with hj | hj
        · exact .inl hj
        · exact .inr ⟨A, _, c, hb, hj⟩
      have hlt0 : ∀ j, (Value.slice A l.length c).ownBlock = some j → j < w.heap.size := fun j hj => (World.ownsRow.lt ho j hj).2
      have c0 : wr.cell? ⟨g, 0, none⟩ = some (.slice A n c) := by have := hb1.cell 0; rw [HN.out] at this; exact this
      have HFT := Lib.hid (And.intro hfoot hlt0)
      have HB1 := Lib.hid (And.intro hb1 hb.lt)
      obtain ⟨m, hm⟩ : ∃ m, (lateT now l).length = m := ⟨_, rfl⟩
      obtain ⟨m2, hm2⟩ : ∃ m, (keepT now l).length = m := ⟨_, rfl⟩
      rw [HN.out, hm2] at hdel
      rw [hm]
      have HD := Lib.hid hdel
      have HM := Lib.hid hm
      have HM2 := Lib.hid hm2
      have HML := Lib.hid (show m ≤ 1048000 by rw [← hm]; exact Nat.le_trans (late_length _ _) HN5.out)
      clear hb ho hb1 ho1 hdel hfoot hlt0 hm hm2 hj hlt
      go_wp2_with fail
      refine HD.out.mono ?_
      rintro e w2 ⟨rfl, ho2, ht2⟩
      have hgn : ¬ (Value.slice A n c).ownBlock = some g := fun e => own_ne (show OwnT wr 0 A c l from own_heap HW.out.2 fun k hk => hS.out.bel.block k (World.ownsRow.lt HW.out.2 k hk).2) HB1.out.1 (by decide) ((block_any _ _ _ _ _).trans e)
      have hb2 := HB1.out.1.touch ht2 hgn
      have c2 : w2.cell? ⟨g, 0, none⟩ = some (.slice A n c) := by have := hb2.cell 0; rw [HN.out] at this; exact this
      have f2 : w2.frozen? ⟨g, 0, none⟩ = false := hb2.frozen 0
      -- the popped ones are still there
      have hp2 : OwnT w2 (w.heap.size + 1) A1 c1 (lateT now l) := own_heap hS.out.own fun k hk => ht2.block k (World.ownsRow.lt hS.out.own k hk).2 (fun e => by
        have h1 := HFT.out.2 k ((block_any _ _ _ _ _).trans e)
        have h2 := (World.ownsRow.lt hS.out.own k hk).1
        omega)
      have hb3 : Blk (w2.setCell ⟨g, 0, none⟩ (.slice A m2 c)) g 74 #[.slice A m2 c] := Blk.set_ hb2 0 _
      have ho3 : OwnT (w2.setCell ⟨g, 0, none⟩ (.slice A m2 c)) 0 A c (keepT now l) := ownsRow_setCell_other (a := ⟨g, 0, none⟩) ho2 (own_ne ho2 hb2 (by decide)) _
      have hp3 : OwnT (w2.setCell ⟨g, 0, none⟩ (.slice A m2 c)) (w.heap.size + 1) A1 c1 (lateT now l) := ownsRow_setCell_other (a := ⟨g, 0, none⟩) hp2 (own_ne hp2 hb2 (by decide)) _
      have ht3 : Touch (WFoot w g) w (w2.setCell ⟨g, 0, none⟩ (.slice A m2 c)) :=
        ((((Below.touch hS.out.bel).mono (fun j hj hp => absurd hp (by omega))).trans ⟨ht2.os, ht2.tape, ht2.output, ht2.size, fun k hk hp => ht2.block k hk (fun e => hp (HFT.out.1 k (.inr ((block_any _ _ _ _ _).trans e))))⟩)).set_ (fun _ => .inl rfl) _
      have hsort := sort_any A1 c1 (lateT now l) (w.heap.size + 1) _ hp3 (by have := HML.out; rw [HM.out]; omega)
      rw [HM.out] at hsort
      have HSO := Lib.hid hsort
      have HST := Lib.hid (And.intro hb3 (And.intro ho3 (And.intro hp3 ht3)))
      clear ho2 ht2 hgn hb2 hp2 hb3 ho3 hp3 ht3 hsort c0
      go_wp2_with fail
      refine HSO.out.mono ?_
      rintro e w4 ⟨rfl, hp4, ht4⟩
      obtain ⟨i0, hi0, hz0, hz1, hz2⟩ := info_parts int_info
      obtain ⟨w5, hms, hrow, hgr⟩ := run_makeSlice_full (P := Try.prog) (w := w4) w4.heap.size 27 3 i0 _ 1 Try.underlying27 hi0 hz0 hz1 .i64 .i64 m (by have := HML.out; omega) (by rw [hz2]; have := HML.out; omega) (by have := HML.out; unfold maxLen; omega) (Nat.le_refl _)
      obtain ⟨gM, hgM⟩ : ∃ z, w4.heap.size = z := ⟨_, rfl⟩
      rw [hgM] at hms
      have hk0 : KeysAt w5 gM (sortT (lateT now l)) 0 := by
        rcases hrow.2 with ⟨e0, _⟩ | ⟨g', cap', cur, e0, _, hg', _, _, hs', _⟩
        · cases e0
        · injection e0 with e1 _ e3
          injection e1 with e1
          injection e1 with e1
          rw [hgM] at e1
          subst e1 e3
          exact ⟨cur, hg', by rw [hs', sortT_length, HM.out, Nat.mul_one], fun k hk => absurd hk (Nat.not_lt_zero _)⟩
      have hb5 : Below gM w4 w5 := ⟨hgr.os, hgr.tape, hgr.output, hgr.size, fun k hk => hgr.block k (by omega) (by simp)⟩
      have hsl : (sortT (lateT now l)).length = m := by rw [sortT_length, HM.out]
      have HK0 := Lib.hid (And.intro hk0 hb5)
      have HSL := Lib.hid hsl
      have HP4 := Lib.hid (And.intro hp4.at_ ht4)
      have HGM := Lib.hid hgM
      clear hk0 hb5 hsl hp4 ht4 hgM hrow hgr hi0 hz0 hz1 hz2
      go_wp2_with fail
      clear hms
      go_loopw [48] (fun iv wr => ∃ j : Nat, j ≤ m ∧ iv = .int .i64 j ∧ Hid (KeysAt wr gM (sortT (lateT now l)) j ∧ Below gM w4 wr)) (fun iv _ => m - (intOf iv).toNat)
      case atStart => exact ⟨0, Nat.zero_le _, rfl, HK0⟩
      case round =>
        obtain ⟨j, hj, rfl, hK⟩ := hrel
        by_cases hlt : j < m
        · obtain ⟨b, off, eb, hbl, p0, p1⟩ := HP4.out.1 j (by rw [HSL.out]; exact hlt)
          subst eb
          obtain ⟨x, hx⟩ : ∃ x, (sortT (lateT now l)).getD j tm0 = x := ⟨_, rfl⟩
          rw [hx] at p0 p1
          rw [HGM.out] at hbl
          have q0 : wr.cell? ⟨b, off + j * 2, none⟩ = some (.int .i64 x.due) := (hK.out.2.cell (p := ⟨b, off + j * 2, none⟩) hbl).trans p0
          have q1 : wr.cell? ⟨b, off + j * 2 + 1, none⟩ = some (.int .i64 x.key) := (hK.out.2.cell (p := ⟨b, off + j * 2 + 1, none⟩) hbl).trans p1
          obtain ⟨⟨cs, hbk, hcs, hck⟩, hbel⟩ := hK.out
          rw [HSL.out] at hcs
          have hbk2 := hbk.alloc (.cells #[.int .i64 x.due, .int .i64 x.key] 46)
          have c0 : (wr.alloc (.cells #[.int .i64 x.due, .int .i64 x.key] 46)).cell? ⟨gM, j, none⟩ = some (cs[j]'(by omega)) := by rw [hbk2.cell, Array.getElem?_eq_getElem (by omega)]
          have f0 : (wr.alloc (.cells #[.int .i64 x.due, .int .i64 x.key] 46)).frozen? ⟨gM, j, none⟩ = false := hbk2.frozen j
          have hgs : gM ≤ wr.heap.size := Nat.le_of_lt hbk.lt
          have hnext : KeysAt ((wr.alloc (.cells #[.int .i64 x.due, .int .i64 x.key] 46)).setCell ⟨gM, j, none⟩ (.int .i64 x.key)) gM (sortT (lateT now l)) (j + 1) ∧ Below gM w4 ((wr.alloc (.cells #[.int .i64 x.due, .int .i64 x.key] 46)).setCell ⟨gM, j, none⟩ (.int .i64 x.key)) := by
            refine ⟨⟨_, Blk.set_ hbk2 j _, by simp [hcs, HSL.out], fun k hk => ?_⟩, (hbel.alloc (by have := hbel.size; have := HGM.out; omega) _).setCell (Nat.le_refl _) _⟩
            by_cases e : k = j
            · subst e
              rw [hx]
              simp [hcs, hlt]
            · rw [Array.getElem?_setIfInBounds_ne (by omega)]
              exact hck k (by omega)
          have HNX := Lib.hid hnext
          have j1 : (j : Int) < m := by omega
          have j0 : (0 : Int) ≤ j := by omega
          have HJ := Lib.hid (show wrap64 ((j : Int) + 1) = (j : Int) + 1 from IntWalk.wrap64_in _ (by have := HML.out; omega))
          have jw := HJ.out
          replace c0 : ∃ v0, (wr.alloc (.cells #[.int .i64 x.due, .int .i64 x.key] 46)).cell? ⟨gM, j, none⟩ = some v0 := ⟨_, c0⟩
          obtain ⟨v0, c0⟩ := c0
          clear p0 p1 hbl hx hbk hck hbel hbk2 hgs hnext hK hcs hj
          clear cs
          go_wp2_with fail
          go_roundw
          case rel =>
            rw [jw]
            exact ⟨j + 1, hlt, by rw [Int.natCast_add]; rfl, HNX⟩
          case measure =>
            rw [jw]
            show m - ((j : Int) + 1).toNat < m - ((j : Int)).toNat
            omega
        · obtain rfl : m = j := by omega
          have hfinal : KeysAt wr gM (sortT (lateT now l)) m ∧ w.heap.size ≤ gM ∧ WheelAt wr g (keepT now l) ∧ Touch (WFoot w g) w wr ∧ (∀ k, WFoot wr g k → WFoot w g k ∨ w.heap.size ≤ k) := by
            obtain ⟨hb3, ho3, hp3, ht3⟩ := HST.out
            have ht4 := HP4.out.2
            have hpk : ∀ k, (Value.slice A1 m c1).ownBlock = some k → w.heap.size + 1 ≤ k := fun k hk => (World.ownsRow.lt hp3 k ((block_any _ _ _ _ _).trans hk)).1
            have hs4 : w.heap.size ≤ gM := by have := ht3.size; have := ht4.size; have := HGM.out; omega
            have hgo := hK.out.2
            have ht4' : ∀ k, (k = g ∨ (Value.slice A l.length c).ownBlock = some k) → k < w.heap.size := fun k hk => by
              rcases hk with hk | hk
              · subst hk; exact HB1.out.2
              · exact HFT.out.2 k hk
            have hkeep4 : ∀ k, (k = g ∨ (Value.slice A l.length c).ownBlock = some k) → wr.heap[k]? = (w2.setCell ⟨g, 0, none⟩ (.slice A m2 c)).heap[k]? := fun k hk => by
              have h1 := ht4' k hk
              rw [hgo.block k (by omega)]
              exact ht4.block k (Nat.lt_of_lt_of_le h1 ht3.size) (fun e => by have := hpk k ((block_any _ _ _ _ _).trans e); omega)
            have hbF : Blk wr g 74 #[.slice A m2 c] := (hkeep4 g (.inl rfl)).trans hb3
            have hoF : OwnT wr 0 A c (keepT now l) := own_heap ho3 fun k hk => hkeep4 k (.inr ((block_any _ _ _ _ _).trans hk))
            refine ⟨hK.out.1, hs4, ⟨⟨A, c, by rw [HM2.out]; exact hbF, hoF⟩, HUP.out.filter _, Nat.le_trans (List.length_filter_le _ _) HN5.out⟩, ?_, fun k hk => ?_⟩
            · refine ⟨hgo.os.trans (ht4.os.trans ht3.os), hgo.tape.trans (ht4.tape.trans ht3.tape), hgo.output.trans (ht4.output.trans ht3.output), Nat.le_trans ht3.size (Nat.le_trans ht4.size hgo.size), fun k hk hp => ?_⟩
              rw [hgo.block k (by omega), ht4.block k (Nat.lt_of_lt_of_le hk ht3.size) (fun e => by have := hpk k ((block_any _ _ _ _ _).trans e); omega)]
              exact ht3.block k hk hp
            · exact .inl (HFT.out.1 k (by
                rcases foot_blk hbF hk with h | h
                · exact .inl h
                · exact .inr ((block_any _ _ _ _ _).trans h)))
          have HFI := Lib.hid hfinal
          clear hfinal hK hj hlt
          go_wp2_with fail
          go_ret
          exact ⟨gM, by rw [HSL.out]; rfl, by rw [HSL.out]; exact HFI.out.1, HFI.out.2⟩
end Go.Proofs.Ytogghcbijdljkaa
