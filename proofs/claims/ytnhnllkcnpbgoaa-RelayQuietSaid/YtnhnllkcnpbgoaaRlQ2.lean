/- RelayQuiet (layer 19): the walk. Its condition: the reach of the form. -/
import Derived.Test.YtnhnllkcnpbgoaaRlQ
namespace Go.Proofs.Ytnhnllkcnpbgoaa
open Go.RowKit
set_option maxRecDepth 100000

set_option maxHeartbeats 16000000 in
theorem walkQuiet (H : RelayIs) (A : Option Addr) (c : Nat) (l : List Px) (i : Int) (f : Fr) (o : Fr) (w : World) (hA : PxAt w w.heap.size A l) (hl : l.length * 48 ≤ 140737488351232) :
    Calls Try.prog 4 #[.slice A l.length c, .int .i64 i, f.v, o.v] w fun e w' => e = .returned (.bool true) ∧ Below w.heap.size w w' := by
  have HAL := Lib.hid (fun W => rlalive_any H W)
  have HPL := Lib.hid (fun (W : World) (hb : Below w.heap.size w W) => rlplain_any A c l W ((hA.below hb).more hb.size) hl)
  have HA := Lib.hid hA
  have HRT := Lib.hid (fun (W : World) (Ax : Option Addr) (cx : Nat) (lx : List Px) (hx : PxAt W W.heap.size Ax lx) (hf : PxFew lx) (y : Fr) (hd : y.data.size ≤ 1000) (g B : Nat) (F : Nat → Prop) (hp : Pt W B F g ⟨[], 0⟩) => H.relay (c := cx) i y hx hf hd hp List.Pairwise.nil (fun x hx => by cases hx) (Nat.zero_le _))
  obtain ⟨n, hnn⟩ : ∃ n, l.length = n := ⟨_, rfl⟩
  have HN := Lib.hid (And.intro hnn hl)
  obtain ⟨f0, f1, f2, f3, f4, f5, f6⟩ := f
  obtain ⟨o0, o1, o2, o3, o4, o5, o6⟩ := o
  show Calls _ _ #[_, _, .agg #[.int .i64 f0, .int .i64 f1, .bool f2, .int .i64 f3, .int .i64 f4, .int .i64 f5, .string f6], .agg #[.int .i64 o0, .int .i64 o1, .bool o2, .int .i64 o3, .int .i64 o4, .int .i64 o5, .string o6]] w _
  have HBX := Lib.hid (show Blk ((w.alloc (.cells #[.int .i64 f0, .int .i64 f1, .bool f2, .int .i64 f3, .int .i64 f4, .int .i64 f5, .string f6] 24)).alloc (.cells #[.int .i64 o0, .int .i64 o1, .bool o2, .int .i64 o3, .int .i64 o4, .int .i64 o5, .string o6] 24)) w.heap.size 24 #[.int .i64 f0, .int .i64 f1, .bool f2, .int .i64 f3, .int .i64 f4, .int .i64 f5, .string f6] ∧ Blk ((w.alloc (.cells #[.int .i64 f0, .int .i64 f1, .bool f2, .int .i64 f3, .int .i64 f4, .int .i64 f5, .string f6] 24)).alloc (.cells #[.int .i64 o0, .int .i64 o1, .bool o2, .int .i64 o3, .int .i64 o4, .int .i64 o5, .string o6] 24)) (w.heap.size + 1) 24 #[.int .i64 o0, .int .i64 o1, .bool o2, .int .i64 o3, .int .i64 o4, .int .i64 o5, .string o6] ∧ Below w.heap.size w ((w.alloc (.cells #[.int .i64 f0, .int .i64 f1, .bool f2, .int .i64 f3, .int .i64 f4, .int .i64 f5, .string f6] 24)).alloc (.cells #[.int .i64 o0, .int .i64 o1, .bool o2, .int .i64 o3, .int .i64 o4, .int .i64 o5, .string o6] 24)) from ⟨(Blk.new w _ _).alloc _, by
    have := Blk.new (w.alloc (.cells #[.int .i64 f0, .int .i64 f1, .bool f2, .int .i64 f3, .int .i64 f4, .int .i64 f5, .string f6] 24)) 24 #[.int .i64 o0, .int .i64 o1, .bool o2, .int .i64 o3, .int .i64 o4, .int .i64 o5, .string o6]
    rwa [show (w.alloc (.cells #[.int .i64 f0, .int .i64 f1, .bool f2, .int .i64 f3, .int .i64 f4, .int .i64 f5, .string f6] 24)).heap.size = w.heap.size + 1 by simp] at this, bel_alloc2 w _ _⟩)
  rw [hnn] at HPL ⊢
  clear hA hl hnn
  go_enter Try.func4, Try.ntmps4
  go_wp2_with fail
  refine (HAL.out _).mono ?_
  rintro e w1 ⟨rfl, b1⟩
  have HB1 := Lib.hid (HBX.out.2.2.trans (b1.mono HBX.out.2.2.size))
  have HX1 := Lib.hid (And.intro (HBX.out.1.below b1 HBX.out.1.lt) (HBX.out.2.1.below b1 HBX.out.2.1.lt))
  clear b1
  go_wp2_with fail
  refine (HPL.out _ HB1.out).mono ?_
  rintro e w2 ⟨hres, b2⟩
  have HB2 := Lib.hid (HB1.out.trans (b2.mono HB1.out.size))
  have HX2 := Lib.hid (And.intro (HX1.out.1.below b2 HX1.out.1.lt) (HX1.out.2.below b2 HX1.out.2.lt))
  have x6 : w2.cell? ⟨w.heap.size, 6, none⟩ = some (.string f6) := HX2.out.1.cell 6
  have y6 : w2.cell? ⟨w.heap.size + 1, 6, none⟩ = some (.string o6) := HX2.out.2.cell 6
  clear b2
  rcases hres with ⟨z, rfl⟩ | ⟨A1, c1, rfl, hv, hc1, hfew⟩
  · go_wp2_with fail
    go_ret
    exact ⟨rfl, HB2.out⟩
  have HV := Lib.hid hfew
  clear hv hc1 hfew
  by_cases h1k : 1000 < (f6.size : Int)
  · go_wp2_with fail
    go_ret
    exact ⟨rfl, HB2.out⟩
  have h1k' : (f6.size : Int) ≤ 1000 := by omega
  clear h1k
  by_cases h2k : 1000 < (o6.size : Int)
  · go_wp2_with fail
    go_ret
    exact ⟨rfl, HB2.out⟩
  have h2k' : (o6.size : Int) ≤ 1000 := by omega
  clear h2k
  go_wp2_with fail
  go_loopw [11, 12, 39] (fun sv bv jv wr => ∃ (j : Nat) (As : Option Addr) (cs : Nat) (Ab : Option Addr) (cb : Nat), j ≤ n ∧ jv = .int .i64 j ∧ sv = .slice As j cs ∧ bv = .slice Ab j cb ∧ Hid (Rows2 wr w2.heap.size As cs ((l.take j).map stillX) Ab cb ((l.take j).map bareX) ∧ Below w2.heap.size w2 wr)) (fun _ _ jv _ => n - (intOf jv).toNat)
  case atStart => exact ⟨0, none, 0, none, 0, Nat.zero_le _, rfl, rfl, rfl, Lib.hid ⟨⟨World.ownsRow_nil _ _ _ _, World.ownsRow_nil _ _ _ _, fun k hk => by cases hk⟩, Below.refl _ _⟩⟩
  case round =>
    obtain ⟨j, As, cs, Ab, cb, hj, rfl, rfl, rfl, hS⟩ := hrel
    by_cases hlt : j < n
    · have hjl : j < l.length := by rw [HN.out.1]; exact hlt
      obtain ⟨⟨b, off, rfl, hbl, hc⟩, _⟩ := HA.out j hjl
      have hb2r : Below w.heap.size w wr := HB2.out.trans (hS.out.2.mono HB2.out.size)
      have hc := hc.below hb2r hbl
      obtain ⟨x, hx⟩ : ∃ x, l.getD j px0 = x := ⟨_, rfl⟩
      rw [hx] at hc
      have htk := take_px l j hjl
      rw [hx] at htk
      obtain ⟨x0, x1, x2, xA, xc, xs⟩ := x
      obtain ⟨q0, q1, q2, q3⟩ := hc
      simp only at q0 q1 q2 q3
      obtain ⟨xn, hxn⟩ : ∃ xn, xs.length = xn := ⟨_, rfl⟩
      rw [hxn] at q3
      obtain ⟨sv, hsv⟩ : ∃ sv : Int, (if 1 ≤ x0 then 1 else 0) = sv := ⟨_, rfl⟩
      have HSV := Lib.hid hsv
      have j1 : (j : Int) < n := by omega
      have j0 : (0 : Int) ≤ j := by omega
      -- the boxes, and the two appends
      have hr := hS.out.1
      have hsz1 : (wr.alloc (.cells #[.int .i64 x0, .int .i64 x1, .bool x2, .slice xA xn xc] 42)).heap.size = wr.heap.size + 1 := by simp
      have hsz3 : ((wr.alloc (.cells #[.int .i64 x0, .int .i64 x1, .bool x2, .slice xA xn xc] 42)).alloc (.cells #[.int .i64 sv, .int .i64 x1, .bool x2, .slice xA xn xc] 42)).heap.size = wr.heap.size + 1 + 1 := by simp
      have zq3 : Blk ((wr.alloc (.cells #[.int .i64 x0, .int .i64 x1, .bool x2, .slice xA xn xc] 42)).alloc (.cells #[.int .i64 sv, .int .i64 x1, .bool x2, .slice xA xn xc] 42)) (wr.heap.size + 1) 42 #[.int .i64 sv, .int .i64 x1, .bool x2, .slice xA xn xc] := by have := Blk.new (wr.alloc (.cells #[.int .i64 x0, .int .i64 x1, .bool x2, .slice xA xn xc] 42)) 42 #[.int .i64 sv, .int .i64 x1, .bool x2, .slice xA xn xc]; rwa [hsz1] at this
      have zp3 : Blk ((wr.alloc (.cells #[.int .i64 x0, .int .i64 x1, .bool x2, .slice xA xn xc] 42)).alloc (.cells #[.int .i64 sv, .int .i64 x1, .bool x2, .slice xA xn xc] 42)) wr.heap.size 42 #[.int .i64 x0, .int .i64 x1, .bool x2, .slice xA xn xc] := (Blk.new wr _ _).alloc _
      have zs4 : Blk (((wr.alloc (.cells #[.int .i64 x0, .int .i64 x1, .bool x2, .slice xA xn xc] 42)).alloc (.cells #[.int .i64 sv, .int .i64 x1, .bool x2, .slice xA xn xc] 42)).alloc (.cells #[.int .i64 sv, .int .i64 x1, .bool x2, .slice xA xn xc] 42)) (wr.heap.size + 1 + 1) 42 (Px.cells (stillX ⟨x0, x1, x2, xA, xc, xs⟩)).toArray := by
        have := Blk.new ((wr.alloc (.cells #[.int .i64 x0, .int .i64 x1, .bool x2, .slice xA xn xc] 42)).alloc (.cells #[.int .i64 sv, .int .i64 x1, .bool x2, .slice xA xn xc] 42)) 42 #[.int .i64 sv, .int .i64 x1, .bool x2, .slice xA xn xc]
        rw [hsz3, ← hsv, ← hxn] at this
        rw [← hsv, ← hxn]
        exact this
      have zp4 : Blk (((wr.alloc (.cells #[.int .i64 x0, .int .i64 x1, .bool x2, .slice xA xn xc] 42)).alloc (.cells #[.int .i64 sv, .int .i64 x1, .bool x2, .slice xA xn xc] 42)).alloc (.cells #[.int .i64 sv, .int .i64 x1, .bool x2, .slice xA xn xc] 42)) wr.heap.size 42 #[.int .i64 x0, .int .i64 x1, .bool x2, .slice xA xn xc] := zp3.alloc _
      have hbt : Below wr.heap.size wr (((wr.alloc (.cells #[.int .i64 x0, .int .i64 x1, .bool x2, .slice xA xn xc] 42)).alloc (.cells #[.int .i64 sv, .int .i64 x1, .bool x2, .slice xA xn xc] 42)).alloc (.cells #[.int .i64 sv, .int .i64 x1, .bool x2, .slice xA xn xc] 42)) := (((Below.refl wr.heap.size wr).alloc (Nat.le_refl _) _).alloc (by simp) _).alloc (by simp; omega) _
      have hbase : w2.heap.size ≤ wr.heap.size := hS.out.2.size
      have hr4 : Rows2 (((wr.alloc (.cells #[.int .i64 x0, .int .i64 x1, .bool x2, .slice xA xn xc] 42)).alloc (.cells #[.int .i64 sv, .int .i64 x1, .bool x2, .slice xA xn xc] 42)).alloc (.cells #[.int .i64 sv, .int .i64 x1, .bool x2, .slice xA xn xc] 42)) w2.heap.size As cs ((l.take j).map stillX) Ab cb ((l.take j).map bareX) := hr.keep fun k hk => hbt.block k (hk.elim (fun h => (hr.lt1 k h).2) (fun h => (hr.lt2 k h).2))
      have hlen1 : ((l.take j).map stillX).length = j := by rw [List.length_map, List.length_take]; omega
      have hlen2 : ((l.take j).map bareX).length = j := by rw [List.length_map, List.length_take]; omega
      have hjn : j ≤ 1000000 := by have := HV.out.len; omega
      obtain ⟨as', cs', W5, hrun1, r5, hb5, hs5, hk5, hm5⟩ := hr4.push1 hlen1 hjn (wr.heap.size + 1 + 1) _ zs4 (Nat.le_trans hbase hbt.size)
      have hp5 : wr.heap.size < W5.heap.size := Nat.lt_of_lt_of_le zp4.lt hs5
      have zp5 : Blk W5 wr.heap.size 42 #[.int .i64 x0, .int .i64 x1, .bool x2, .slice xA xn xc] := (hk5 wr.heap.size zp4.lt hbase (fun q hq e => by have := (hr.lt1 q hq).2; omega)).trans zp4
      have zp6 : Blk (W5.setCell ⟨wr.heap.size, 3, none⟩ (.slice none 0 0)) wr.heap.size 42 #[.int .i64 x0, .int .i64 x1, .bool x2, .slice none 0 0] := zp5.set_ 3 _
      have hsz6 : (W5.setCell ⟨wr.heap.size, 3, none⟩ (.slice none 0 0)).heap.size = W5.heap.size := by simp [World.setCell]
      have zb7 : Blk ((W5.setCell ⟨wr.heap.size, 3, none⟩ (.slice none 0 0)).alloc (.cells #[.int .i64 x0, .int .i64 x1, .bool x2, .slice none 0 0] 42)) W5.heap.size 42 (Px.cells (bareX ⟨x0, x1, x2, xA, xc, xs⟩)).toArray := by
        have := Blk.new (W5.setCell ⟨wr.heap.size, 3, none⟩ (.slice none 0 0)) 42 #[.int .i64 x0, .int .i64 x1, .bool x2, .slice none 0 0]
        rw [hsz6] at this
        exact this
      have hne5 : ∀ k, ((Value.slice as' 0 0).ownBlock = some k ∨ (Value.slice Ab 0 0).ownBlock = some k) → k ≠ wr.heap.size ∧ k < W5.heap.size := fun k hk => by
        rcases hk with hk | hk
        · refine ⟨?_, (r5.lt1 k hk).2⟩
          rcases hm5 k hk with h | h
          · have := (hr.lt1 k h).2; omega
          · have := hbt.size
            have := zp4.lt
            omega
        · have := (hr.lt2 k hk).2
          exact ⟨by omega, by omega⟩
      have r7 : Rows2 ((W5.setCell ⟨wr.heap.size, 3, none⟩ (.slice none 0 0)).alloc (.cells #[.int .i64 x0, .int .i64 x1, .bool x2, .slice none 0 0] 42)) w2.heap.size as' cs' ((l.take j).map stillX ++ [stillX ⟨x0, x1, x2, xA, xc, xs⟩]) Ab cb ((l.take j).map bareX) := r5.keep fun k hk => by
        have h1 := hne5 k hk
        exact (Below.heap_alloc _ _ k (by rw [hsz6]; exact h1.2)).trans (Below.heap_setCell _ _ _ k h1.1)
      have hsz7 : W5.heap.size ≤ ((W5.setCell ⟨wr.heap.size, 3, none⟩ (.slice none 0 0)).alloc (.cells #[.int .i64 x0, .int .i64 x1, .bool x2, .slice none 0 0] 42)).heap.size := by simp [World.setCell]
      obtain ⟨ab', cb', W8, hrun2, r8, hb8, hs8, hk8, hm8⟩ := r7.swap.push1 hlen2 hjn W5.heap.size _ zb7 (by omega)
      have hb67 : Below w2.heap.size W5 ((W5.setCell ⟨wr.heap.size, 3, none⟩ (.slice none 0 0)).alloc (.cells #[.int .i64 x0, .int .i64 x1, .bool x2, .slice none 0 0] 42)) := ((((Touch.refl (fun k => k = wr.heap.size) W5).set_ (a := ⟨wr.heap.size, 3, none⟩) (fun _ => rfl) _).mono (q := fun k => w2.heap.size ≤ k) (fun k _ e => by rw [e]; exact hbase)).alloc _).below (by omega) (fun k hk => hk)
      have HEND := Lib.hid (show Rows2 W8 w2.heap.size as' cs' ((l.take (j + 1)).map stillX) ab' cb' ((l.take (j + 1)).map bareX) ∧ Below w2.heap.size w2 W8 from ⟨by rw [htk, List.map_append, List.map_append]; exact r8.swap, (hS.out.2.trans ((hbt.mono hbase).trans (hb5.trans (hb67.trans hb8))))⟩)
      have HR1 := Lib.hid hrun1
      have HR2 := Lib.hid hrun2
      have g30 : ((wr.alloc (.cells #[.int .i64 x0, .int .i64 x1, .bool x2, .slice xA xn xc] 42)).alloc (.cells #[.int .i64 sv, .int .i64 x1, .bool x2, .slice xA xn xc] 42)).cell? ⟨wr.heap.size + 1, 0, none⟩ = some (.int .i64 sv) := zq3.cell 0
      have g31 : ((wr.alloc (.cells #[.int .i64 x0, .int .i64 x1, .bool x2, .slice xA xn xc] 42)).alloc (.cells #[.int .i64 sv, .int .i64 x1, .bool x2, .slice xA xn xc] 42)).cell? ⟨wr.heap.size + 1, 1, none⟩ = some (.int .i64 x1) := zq3.cell 1
      have g32 : ((wr.alloc (.cells #[.int .i64 x0, .int .i64 x1, .bool x2, .slice xA xn xc] 42)).alloc (.cells #[.int .i64 sv, .int .i64 x1, .bool x2, .slice xA xn xc] 42)).cell? ⟨wr.heap.size + 1, 2, none⟩ = some (.bool x2) := zq3.cell 2
      have g33 : ((wr.alloc (.cells #[.int .i64 x0, .int .i64 x1, .bool x2, .slice xA xn xc] 42)).alloc (.cells #[.int .i64 sv, .int .i64 x1, .bool x2, .slice xA xn xc] 42)).cell? ⟨wr.heap.size + 1, 3, none⟩ = some (.slice xA xn xc) := zq3.cell 3
      have f53 : W5.frozen? ⟨wr.heap.size, 3, none⟩ = false := zp5.frozen 3
      have g53 : W5.cell? ⟨wr.heap.size, 3, none⟩ = some (.slice xA xn xc) := zp5.cell 3
      have g60 : (W5.setCell ⟨wr.heap.size, 3, none⟩ (.slice none 0 0)).cell? ⟨wr.heap.size, 0, none⟩ = some (.int .i64 x0) := zp6.cell 0
      have g61 : (W5.setCell ⟨wr.heap.size, 3, none⟩ (.slice none 0 0)).cell? ⟨wr.heap.size, 1, none⟩ = some (.int .i64 x1) := zp6.cell 1
      have g62 : (W5.setCell ⟨wr.heap.size, 3, none⟩ (.slice none 0 0)).cell? ⟨wr.heap.size, 2, none⟩ = some (.bool x2) := zp6.cell 2
      have g63 : (W5.setCell ⟨wr.heap.size, 3, none⟩ (.slice none 0 0)).cell? ⟨wr.heap.size, 3, none⟩ = some (.slice none 0 0) := zp6.cell 3
      have HLT := Lib.hid hlt
      have HJ := Lib.hid (show wrap64 ((j : Int) + 1) = (j : Int) + 1 from IntWalk.wrap64_in _ (by omega))
      clear hr hsz1 hsz3 zq3 zp3 zs4 zp4 hbt hbase hr4 hlen1 hlen2 hjn hrun1 hrun2 r5 hb5 hs5 hk5 hm5 hp5 zp5 zp6 hsz6 zb7 hne5 r7 hsz7 r8 hb8 hs8 hk8 hm8 hb67 hx htk hxn hjl hbl hb2r hj hlt hS
      have hx : (sv = 0 ∧ x0 < 0) ∨ (sv = 0 ∧ x0 = 0) ∨ (sv = 1 ∧ x0 = 1) ∨ (sv = 1 ∧ 1 < x0) := by
        by_cases c : 1 ≤ x0
        · rw [if_pos c] at hsv; omega
        · rw [if_neg c] at hsv; omega
      clear hsv HSV
      rcases hx with ⟨rfl, hx⟩ | ⟨rfl, rfl⟩ | ⟨rfl, rfl⟩ | ⟨rfl, hx⟩
      · go_wp2_with (first
          | (at_builtin; refine Lib.wpList_append_run _ rfl _ _ _ _ rfl _ _ rfl rfl _ _ HR1.out ?_)
          | (at_builtin; refine Lib.wpList_append_run _ rfl _ _ _ _ rfl _ _ rfl rfl _ _ HR2.out ?_))
        go_roundw
        case rel =>
          rw [HJ.out]
          exact ⟨j + 1, as', cs', ab', cb', HLT.out, by rw [Int.natCast_add]; rfl, rfl, rfl, HEND⟩
        case measure =>
          rw [HJ.out]
          show n - ((j : Int) + 1).toNat < n - ((j : Int)).toNat
          have := HLT.out
          omega
      · go_wp2_with (first
          | (at_builtin; refine Lib.wpList_append_run _ rfl _ _ _ _ rfl _ _ rfl rfl _ _ HR1.out ?_)
          | (at_builtin; refine Lib.wpList_append_run _ rfl _ _ _ _ rfl _ _ rfl rfl _ _ HR2.out ?_))
        go_roundw
        case rel =>
          rw [HJ.out]
          exact ⟨j + 1, as', cs', ab', cb', HLT.out, by rw [Int.natCast_add]; rfl, rfl, rfl, HEND⟩
        case measure =>
          rw [HJ.out]
          show n - ((j : Int) + 1).toNat < n - ((j : Int)).toNat
          have := HLT.out
          omega
      · go_wp2_with (first
          | (at_builtin; refine Lib.wpList_append_run _ rfl _ _ _ _ rfl _ _ rfl rfl _ _ HR1.out ?_)
          | (at_builtin; refine Lib.wpList_append_run _ rfl _ _ _ _ rfl _ _ rfl rfl _ _ HR2.out ?_))
        go_roundw
        case rel =>
          rw [HJ.out]
          exact ⟨j + 1, as', cs', ab', cb', HLT.out, by rw [Int.natCast_add]; rfl, rfl, rfl, HEND⟩
        case measure =>
          rw [HJ.out]
          show n - ((j : Int) + 1).toNat < n - ((j : Int)).toNat
          have := HLT.out
          omega
      · have hx0 : 0 < x0 := by omega
        go_wp2_with (first
          | (at_builtin; refine Lib.wpList_append_run _ rfl _ _ _ _ rfl _ _ rfl rfl _ _ HR1.out ?_)
          | (at_builtin; refine Lib.wpList_append_run _ rfl _ _ _ _ rfl _ _ rfl rfl _ _ HR2.out ?_))
        go_roundw
        case rel =>
          rw [HJ.out]
          exact ⟨j + 1, as', cs', ab', cb', HLT.out, by rw [Int.natCast_add]; rfl, rfl, rfl, HEND⟩
        case measure =>
          rw [HJ.out]
          show n - ((j : Int) + 1).toNat < n - ((j : Int)).toNat
          have := HLT.out
          omega
    · obtain rfl : n = j := by omega
      have htk : l.take n = l := List.take_of_length_le (by rw [HN.out.1]; exact Nat.le_refl _)
      have hS := hS.out
      rw [htk] at hS
      have s2 := HB2.out.size
      have s2r := hS.2.size
      have hzo := HX2.out.2.below hS.2 HX2.out.2.lt
      have hzf := HX2.out.1.below hS.2 HX2.out.1.lt
      have hzo' : Blk (wr.setCell ⟨w.heap.size + 1, 1, none⟩ (.int .i64 (-1))) (w.heap.size + 1) 24 #[.int .i64 o0, .int .i64 (-1), .bool o2, .int .i64 o3, .int .i64 o4, .int .i64 o5, .string o6] := hzo.set_ 1 _
      have hzf' : Blk (wr.setCell ⟨w.heap.size + 1, 1, none⟩ (.int .i64 (-1))) w.heap.size 24 #[.int .i64 f0, .int .i64 f1, .bool f2, .int .i64 f3, .int .i64 f4, .int .i64 f5, .string f6] := hzf.far (by show w.heap.size ≠ w.heap.size + 1; omega) _
      have hN1 : w.heap.size + 1 < w2.heap.size := HX2.out.2.lt
      have hbw : Below w.heap.size w (wr.setCell ⟨w.heap.size + 1, 1, none⟩ (.int .i64 (-1))) := ((Touch.refl (fun k => w.heap.size ≤ k) wr).set_ (a := ⟨w.heap.size + 1, 1, none⟩) (fun _ => by show w.heap.size ≤ w.heap.size + 1; omega) _).below (by omega) (fun k hk => hk) |> (HB2.out.trans (hS.2.mono s2)).trans
      have hrr : Rows2 (wr.setCell ⟨w.heap.size + 1, 1, none⟩ (.int .i64 (-1))) w2.heap.size As cs (l.map stillX) Ab cb (l.map bareX) := hS.1.keep fun k hk => Below.heap_setCell _ _ _ k (by
        have : w2.heap.size ≤ k := hk.elim (fun h => (hS.1.lt1 k h).1) (fun h => (hS.1.lt2 k h).1)
        show k ≠ w.heap.size + 1
        omega)
      have HKS := Lib.hid (fun (V : World) (hb : Below (wr.setCell ⟨w.heap.size + 1, 1, none⟩ (.int .i64 (-1))).heap.size (wr.setCell ⟨w.heap.size + 1, 1, none⟩ (.int .i64 (-1))) V) => show V.cell? ⟨w.heap.size, 0, none⟩ = some (.int .i64 f0) ∧ V.cell? ⟨w.heap.size, 1, none⟩ = some (.int .i64 f1) ∧ V.cell? ⟨w.heap.size, 2, none⟩ = some (.bool f2) ∧ V.cell? ⟨w.heap.size, 3, none⟩ = some (.int .i64 f3) ∧ V.cell? ⟨w.heap.size, 4, none⟩ = some (.int .i64 f4) ∧ V.cell? ⟨w.heap.size, 5, none⟩ = some (.int .i64 f5) ∧ V.cell? ⟨w.heap.size, 6, none⟩ = some (.string f6) ∧ V.cell? ⟨w.heap.size + 1, 0, none⟩ = some (.int .i64 o0) ∧ V.cell? ⟨w.heap.size + 1, 1, none⟩ = some (.int .i64 (-1)) ∧ V.cell? ⟨w.heap.size + 1, 2, none⟩ = some (.bool o2) ∧ V.cell? ⟨w.heap.size + 1, 3, none⟩ = some (.int .i64 o3) ∧ V.cell? ⟨w.heap.size + 1, 4, none⟩ = some (.int .i64 o4) ∧ V.cell? ⟨w.heap.size + 1, 5, none⟩ = some (.int .i64 o5) ∧ V.cell? ⟨w.heap.size + 1, 6, none⟩ = some (.string o6) from by
        have q := hzf'.below hb hzf'.lt
        have r := hzo'.below hb hzo'.lt
        exact ⟨q.cell 0, q.cell 1, q.cell 2, q.cell 3, q.cell 4, q.cell 5, q.cell 6, r.cell 0, r.cell 1, r.cell 2, r.cell 3, r.cell 4, r.cell 5, r.cell 6⟩)
      have HZN := Lib.hid (fun (V : World) (hb : Below (wr.setCell ⟨w.heap.size + 1, 1, none⟩ (.int .i64 (-1))).heap.size (wr.setCell ⟨w.heap.size + 1, 1, none⟩ (.int .i64 (-1))) V) => show Calls Try.prog 10 #[] V fun e w' => ∃ g : Nat, e = .returned (.pointer (some ⟨g, 0, none⟩)) ∧ (w'.cell? ⟨w.heap.size, 0, none⟩ = some (.int .i64 f0) ∧ w'.cell? ⟨w.heap.size, 1, none⟩ = some (.int .i64 f1) ∧ w'.cell? ⟨w.heap.size, 2, none⟩ = some (.bool f2) ∧ w'.cell? ⟨w.heap.size, 3, none⟩ = some (.int .i64 f3) ∧ w'.cell? ⟨w.heap.size, 4, none⟩ = some (.int .i64 f4) ∧ w'.cell? ⟨w.heap.size, 5, none⟩ = some (.int .i64 f5) ∧ w'.cell? ⟨w.heap.size, 6, none⟩ = some (.string f6) ∧ w'.cell? ⟨w.heap.size + 1, 0, none⟩ = some (.int .i64 o0) ∧ w'.cell? ⟨w.heap.size + 1, 1, none⟩ = some (.int .i64 (-1)) ∧ w'.cell? ⟨w.heap.size + 1, 2, none⟩ = some (.bool o2) ∧ w'.cell? ⟨w.heap.size + 1, 3, none⟩ = some (.int .i64 o3) ∧ w'.cell? ⟨w.heap.size + 1, 4, none⟩ = some (.int .i64 o4) ∧ w'.cell? ⟨w.heap.size + 1, 5, none⟩ = some (.int .i64 o5) ∧ w'.cell? ⟨w.heap.size + 1, 6, none⟩ = some (.string o6)) ∧ Pt w' V.heap.size (grow noF V w') g ⟨[], 0⟩ ∧ Below (wr.setCell ⟨w.heap.size + 1, 1, none⟩ (.int .i64 (-1))).heap.size (wr.setCell ⟨w.heap.size + 1, 1, none⟩ (.int .i64 (-1))) w' from (fnew_any V V.heap.size (Nat.le_refl _)).mono fun e w' hh => by
        obtain ⟨g, h1, h2, h3⟩ := hh
        have hb' := hb.trans (h2.mono hb.size)
        exact ⟨g, h1, HKS.out w' hb', h3, hb'⟩)
      have hpx : ∀ V : World, Below (wr.setCell ⟨w.heap.size + 1, 1, none⟩ (.int .i64 (-1))).heap.size (wr.setCell ⟨w.heap.size + 1, 1, none⟩ (.int .i64 (-1))) V → PxAt V V.heap.size As (l.map stillX) ∧ PxAt V V.heap.size Ab (l.map bareX) ∧ PxAt V V.heap.size (some ⟨0, 0, none⟩) [] := fun V hb => by
        have hbV := hbw.trans (hb.mono hbw.size)
        refine ⟨(hrr.o1.below hb).px fun k hk => ?_, (hrr.o2.below hb).px fun k hk => ?_, fun k hk => absurd hk (Nat.not_lt_zero _)⟩
        · rw [List.length_map] at hk
          rw [getD_map_px stillX l k hk]
          exact ((HA.out k hk).2.below hbV).more hbV.size
        · rw [List.length_map] at hk
          rw [getD_map_px bareX l k hk]
          exact fun q hq => absurd hq (Nat.not_lt_zero _)
      have hn1 : (l.map stillX).length = n := by rw [List.length_map]; exact HN.out.1
      have hn2 : (l.map bareX).length = n := by rw [List.length_map]; exact HN.out.1
      have HZ1 := Lib.hid (fun (V : World) (hb : Below (wr.setCell ⟨w.heap.size + 1, 1, none⟩ (.int .i64 (-1))).heap.size (wr.setCell ⟨w.heap.size + 1, 1, none⟩ (.int .i64 (-1))) V) (g B : Nat) (F : Nat → Prop) (hp : Pt V B F g ⟨[], 0⟩) => show Calls Try.prog 7 #[.slice As n cs, .int .i64 i, .agg #[.int .i64 f0, .int .i64 f1, .bool f2, .int .i64 f3, .int .i64 f4, .int .i64 f5, .string f6], .pointer (some ⟨g, 0, none⟩)] V fun e w' => ∃ A' c', e = .returned (.slice A' 0 c') ∧ (w'.cell? ⟨w.heap.size, 0, none⟩ = some (.int .i64 f0) ∧ w'.cell? ⟨w.heap.size, 1, none⟩ = some (.int .i64 f1) ∧ w'.cell? ⟨w.heap.size, 2, none⟩ = some (.bool f2) ∧ w'.cell? ⟨w.heap.size, 3, none⟩ = some (.int .i64 f3) ∧ w'.cell? ⟨w.heap.size, 4, none⟩ = some (.int .i64 f4) ∧ w'.cell? ⟨w.heap.size, 5, none⟩ = some (.int .i64 f5) ∧ w'.cell? ⟨w.heap.size, 6, none⟩ = some (.string f6) ∧ w'.cell? ⟨w.heap.size + 1, 0, none⟩ = some (.int .i64 o0) ∧ w'.cell? ⟨w.heap.size + 1, 1, none⟩ = some (.int .i64 (-1)) ∧ w'.cell? ⟨w.heap.size + 1, 2, none⟩ = some (.bool o2) ∧ w'.cell? ⟨w.heap.size + 1, 3, none⟩ = some (.int .i64 o3) ∧ w'.cell? ⟨w.heap.size + 1, 4, none⟩ = some (.int .i64 o4) ∧ w'.cell? ⟨w.heap.size + 1, 5, none⟩ = some (.int .i64 o5) ∧ w'.cell? ⟨w.heap.size + 1, 6, none⟩ = some (.string o6)) ∧ Below (wr.setCell ⟨w.heap.size + 1, 1, none⟩ (.int .i64 (-1))).heap.size (wr.setCell ⟨w.heap.size + 1, 1, none⟩ (.int .i64 (-1))) w' from by
        have := HRT.out V As cs (l.map stillX) (hpx V hb).1 (few_map stillX (fun x => Nat.le_refl _) HV.out) ⟨f0, f1, f2, f3, f4, f5, f6⟩ (by show f6.size ≤ 1000; omega) g B F hp
        rw [hn1, still_none] at this
        exact this.mono fun e w' hh => by
          obtain ⟨A', c', h1, _, h3⟩ := hh
          have hb' := hb.trans (h3.mono hb.size)
          exact ⟨A', c', h1, HKS.out w' hb', hb'⟩)
      have HZ2 := Lib.hid (fun (V : World) (hb : Below (wr.setCell ⟨w.heap.size + 1, 1, none⟩ (.int .i64 (-1))).heap.size (wr.setCell ⟨w.heap.size + 1, 1, none⟩ (.int .i64 (-1))) V) (g B : Nat) (F : Nat → Prop) (hp : Pt V B F g ⟨[], 0⟩) => show Calls Try.prog 7 #[.slice Ab n cb, .int .i64 i, .agg #[.int .i64 f0, .int .i64 f1, .bool f2, .int .i64 f3, .int .i64 f4, .int .i64 f5, .string f6], .pointer (some ⟨g, 0, none⟩)] V fun e w' => ∃ A' c', e = .returned (.slice A' 0 c') ∧ (w'.cell? ⟨w.heap.size, 0, none⟩ = some (.int .i64 f0) ∧ w'.cell? ⟨w.heap.size, 1, none⟩ = some (.int .i64 f1) ∧ w'.cell? ⟨w.heap.size, 2, none⟩ = some (.bool f2) ∧ w'.cell? ⟨w.heap.size, 3, none⟩ = some (.int .i64 f3) ∧ w'.cell? ⟨w.heap.size, 4, none⟩ = some (.int .i64 f4) ∧ w'.cell? ⟨w.heap.size, 5, none⟩ = some (.int .i64 f5) ∧ w'.cell? ⟨w.heap.size, 6, none⟩ = some (.string f6) ∧ w'.cell? ⟨w.heap.size + 1, 0, none⟩ = some (.int .i64 o0) ∧ w'.cell? ⟨w.heap.size + 1, 1, none⟩ = some (.int .i64 (-1)) ∧ w'.cell? ⟨w.heap.size + 1, 2, none⟩ = some (.bool o2) ∧ w'.cell? ⟨w.heap.size + 1, 3, none⟩ = some (.int .i64 o3) ∧ w'.cell? ⟨w.heap.size + 1, 4, none⟩ = some (.int .i64 o4) ∧ w'.cell? ⟨w.heap.size + 1, 5, none⟩ = some (.int .i64 o5) ∧ w'.cell? ⟨w.heap.size + 1, 6, none⟩ = some (.string o6)) ∧ Below (wr.setCell ⟨w.heap.size + 1, 1, none⟩ (.int .i64 (-1))).heap.size (wr.setCell ⟨w.heap.size + 1, 1, none⟩ (.int .i64 (-1))) w' from by
        have := HRT.out V Ab cb (l.map bareX) (hpx V hb).2.1 (few_map bareX (fun x => Nat.zero_le _) HV.out) ⟨f0, f1, f2, f3, f4, f5, f6⟩ (by show f6.size ≤ 1000; omega) g B F hp
        rw [hn2, bare_none] at this
        exact this.mono fun e w' hh => by
          obtain ⟨A', c', h1, _, h3⟩ := hh
          have hb' := hb.trans (h3.mono hb.size)
          exact ⟨A', c', h1, HKS.out w' hb', hb'⟩)
      have HZ3 := Lib.hid (fun (V : World) (hb : Below (wr.setCell ⟨w.heap.size + 1, 1, none⟩ (.int .i64 (-1))).heap.size (wr.setCell ⟨w.heap.size + 1, 1, none⟩ (.int .i64 (-1))) V) (g B : Nat) (F : Nat → Prop) (hp : Pt V B F g ⟨[], 0⟩) => show Calls Try.prog 7 #[.slice A n c, .int .i64 i, .agg #[.int .i64 o0, .int .i64 (-1), .bool o2, .int .i64 o3, .int .i64 o4, .int .i64 o5, .string o6], .pointer (some ⟨g, 0, none⟩)] V fun e w' => ∃ A' c', e = .returned (.slice A' 0 c') ∧ (w'.cell? ⟨w.heap.size, 0, none⟩ = some (.int .i64 f0) ∧ w'.cell? ⟨w.heap.size, 1, none⟩ = some (.int .i64 f1) ∧ w'.cell? ⟨w.heap.size, 2, none⟩ = some (.bool f2) ∧ w'.cell? ⟨w.heap.size, 3, none⟩ = some (.int .i64 f3) ∧ w'.cell? ⟨w.heap.size, 4, none⟩ = some (.int .i64 f4) ∧ w'.cell? ⟨w.heap.size, 5, none⟩ = some (.int .i64 f5) ∧ w'.cell? ⟨w.heap.size, 6, none⟩ = some (.string f6) ∧ w'.cell? ⟨w.heap.size + 1, 0, none⟩ = some (.int .i64 o0) ∧ w'.cell? ⟨w.heap.size + 1, 1, none⟩ = some (.int .i64 (-1)) ∧ w'.cell? ⟨w.heap.size + 1, 2, none⟩ = some (.bool o2) ∧ w'.cell? ⟨w.heap.size + 1, 3, none⟩ = some (.int .i64 o3) ∧ w'.cell? ⟨w.heap.size + 1, 4, none⟩ = some (.int .i64 o4) ∧ w'.cell? ⟨w.heap.size + 1, 5, none⟩ = some (.int .i64 o5) ∧ w'.cell? ⟨w.heap.size + 1, 6, none⟩ = some (.string o6)) ∧ Below (wr.setCell ⟨w.heap.size + 1, 1, none⟩ (.int .i64 (-1))).heap.size (wr.setCell ⟨w.heap.size + 1, 1, none⟩ (.int .i64 (-1))) w' from by
        have hbV := hbw.trans (hb.mono hbw.size)
        have := HRT.out V A c l ((HA.out.below hbV).more hbV.size) HV.out ⟨o0, -1, o2, o3, o4, o5, o6⟩ (by show o6.size ≤ 1000; omega) g B F hp
        rw [HN.out.1, odd_none _ _ _ _ rfl] at this
        exact this.mono fun e w' hh => by
          obtain ⟨A', c', h1, _, h3⟩ := hh
          have hb' := hb.trans (h3.mono hb.size)
          exact ⟨A', c', h1, HKS.out w' hb', hb'⟩)
      have HBW := Lib.hid hbw
      have fz1 : wr.frozen? ⟨w.heap.size + 1, 1, none⟩ = false := hzo.frozen 1
      have gz1 : wr.cell? ⟨w.heap.size + 1, 1, none⟩ = some (.int .i64 o1) := hzo.cell 1
      have cD := HKS.out (wr.setCell ⟨w.heap.size + 1, 1, none⟩ (.int .i64 (-1))).drew (Below.refl _ _).drew
      have HBD := Lib.hid (show Below (wr.setCell ⟨w.heap.size + 1, 1, none⟩ (.int .i64 (-1))).heap.size (wr.setCell ⟨w.heap.size + 1, 1, none⟩ (.int .i64 (-1))) (wr.setCell ⟨w.heap.size + 1, 1, none⟩ (.int .i64 (-1))).drew from (Below.refl _ _).drew)
      have j1 : ¬ (n : Int) < n := by omega
      clear htk hS s2 s2r hzo hzf hzo' hzf' hN1 hbw hrr hpx hn1 hn2 x6 y6 hj hlt
      go_wp2_with fail
      go_region_held3 (fun V => V.cell? ⟨w.heap.size, 0, none⟩ = some (.int .i64 f0) ∧ V.cell? ⟨w.heap.size, 1, none⟩ = some (.int .i64 f1) ∧ V.cell? ⟨w.heap.size, 2, none⟩ = some (.bool f2) ∧ V.cell? ⟨w.heap.size, 3, none⟩ = some (.int .i64 f3) ∧ V.cell? ⟨w.heap.size, 4, none⟩ = some (.int .i64 f4) ∧ V.cell? ⟨w.heap.size, 5, none⟩ = some (.int .i64 f5) ∧ V.cell? ⟨w.heap.size, 6, none⟩ = some (.string f6) ∧ V.cell? ⟨w.heap.size + 1, 0, none⟩ = some (.int .i64 o0) ∧ V.cell? ⟨w.heap.size + 1, 1, none⟩ = some (.int .i64 (-1)) ∧ V.cell? ⟨w.heap.size + 1, 2, none⟩ = some (.bool o2) ∧ V.cell? ⟨w.heap.size + 1, 3, none⟩ = some (.int .i64 o3) ∧ V.cell? ⟨w.heap.size + 1, 4, none⟩ = some (.int .i64 o4) ∧ V.cell? ⟨w.heap.size + 1, 5, none⟩ = some (.int .i64 o5) ∧ V.cell? ⟨w.heap.size + 1, 6, none⟩ = some (.string o6))
        (first
          | (with_reducible exact cD)
          | (with_reducible exact cA)
          | fail)
        (first
          | (go_at_call 10; (with_reducible refine (HZN.out _ HBD.out).mono ?_); rintro e w5 ⟨gt, rfl, cA, p5, hw⟩)
          | (go_at_call 10; (with_reducible refine (HZN.out _ hw).mono ?_); rintro e w5 ⟨gt, rfl, cA, p5, hw⟩)
          | (go_at_call 7; (with_reducible refine (HZ1.out _ hw _ _ _ p5).mono ?_); rintro e w6 ⟨A6, c6, rfl, cA, hw⟩)
          | (go_at_call 7; (with_reducible refine (HZ2.out _ hw _ _ _ p5).mono ?_); rintro e w6 ⟨A6, c6, rfl, cA, hw⟩)
          | (go_at_call 7; (with_reducible refine (HZ3.out _ hw _ _ _ p5).mono ?_); rintro e w6 ⟨A6, c6, rfl, cA, hw⟩))
      all_goals
        have HW := Lib.hid (HBW.out.trans (hw.mono HBW.out.size))
        clear cA cD hw p5
        go_wp2_with fail
        go_ret
        exact ⟨rfl, HW.out⟩
end Go.Proofs.Ytnhnllkcnpbgoaa
