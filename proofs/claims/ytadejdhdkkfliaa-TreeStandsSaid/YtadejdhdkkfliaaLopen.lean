/- stands: where each link is open at both ends just if it is of the tree, the answer is true. Its condition: bridges in memory as they are, few links, a tick in bounds. -/
import Derived.Test.YtadejdhdkkfliaaTworld
import Derived.Test.YtadejdhdkkfliaaLstands
import Derived.Deep.RegionLaw
import Derived.BigQuiet
namespace Go.Proofs.Ytadejdhdkkfliaa
open Go.ChangeShapes Go.WideShapes Go.ChangeAt Go.RowKit
set_option maxRecDepth 100000

set_option maxHeartbeats 8000000 in
theorem tstands_any (A0 : Option Addr) (c0 : Nat) (A : Option Addr) (n c : Nat) (f : Nat → Int) (A2 : Option Addr) (c2 : Nat) (l : List Li) (now : Int) (base : Nat) (w : World) (g gp : Nat → Nat) (B : Nat → Nat → Pt) (fw : Nat → Nat → Bool) (ch : Nat → Int)
    (h0 : OwnP w base A0 c0 ((List.range n).map g)) (hA : AllW w n f g gp B fw ch) (hok : ∀ x, x < n → POk now 6 (B x)) (hnow : 0 ≤ now ∧ now ≤ 1099511627776)
    (h : IdAt w w.heap.size A n f) (h2 : LiAt w w.heap.size A2 l) (hK : Big n f (l.map Li.lk)) (hL : l.length ≤ 16) (hn : 1 ≤ n) (ha : ∀ x ∈ l, 0 ≤ x.a ∧ 0 ≤ x.b)
    (hT : ∀ q, q < l.length → treeB f (sweeps f (linkE (l.map Li.lk)) (n * l.length)) l q = (decide (stateP (B (l.getD q li0).lk.a (l.getD q li0).pa.toNat) now = 2) && decide (stateP (B (l.getD q li0).lk.b (l.getD q li0).pb.toNat) now = 2))) :
    Calls Try.prog 31 #[.slice A0 n c0, .slice A n c, .slice A2 l.length c2, .int .i64 now] w fun e w' => e = .returned (.bool true) ∧ Below w.heap.size w w' := by
  obtain ⟨k, hkl⟩ : ∃ k, l.length = k := ⟨_, rfl⟩
  have HST := Lib.hid (stands_any A n c f A2 c2 l w h h2 hK hL hn ha)
  rw [hkl] at HST
  obtain ⟨F, hF⟩ : ∃ F, sweeps f (linkE (l.map Li.lk)) (n * k) = F := ⟨_, rfl⟩
  rw [hkl, hF] at hT
  rw [hF] at HST
  have H := Lib.hid (And.intro h0 (And.intro hA (And.intro hok (And.intro hnow (And.intro h2 (And.intro hK (And.intro (hkl ▸ hL : k ≤ 16) (And.intro ha (And.intro hT hkl)))))))))
  rw [hkl]
  clear h0 hA hok hnow h h2 hK hL hn ha hT hkl hF
  go_enter Try.func31, Try.ntmps31
  go_wp2_with fail
  refine HST.out.mono ?_
  rintro e w1 ⟨A3, c3, rfl, ho, b1⟩
  have HB1 := Lib.hid (And.intro ho b1)
  clear ho b1 HST
  go_wp2_with fail
  go_loopw [17] (fun iv wr => ∃ q : Nat, q ≤ k ∧ iv = .int .i64 q ∧ Hid (Below w1.heap.size w1 wr)) (fun iv _ => k - (intOf iv).toNat)
  case atStart => exact ⟨0, Nat.zero_le _, rfl, Lib.hid (Below.refl _ _)⟩
  case round =>
    obtain ⟨q, hq, rfl, hQ⟩ := hrel
    by_cases hlq : q < k
    rotate_left
    · obtain rfl : k = q := by omega
      go_wp2_with fail
      go_ret
      exact ⟨rfl, HB1.out.2.trans (hQ.out.mono HB1.out.2.size)⟩
    have q1 : (q : Int) < k := by omega
    have q0 : (0 : Int) ≤ q := by omega
    have HJQ := Lib.hid (show wrap64 ((q : Int) + 1) = (q : Int) + 1 from IntWalk.wrap64_in _ (by have := H.out.2.2.2.2.2.2.1; omega))
    have hql : q < l.length := by rw [H.out.2.2.2.2.2.2.2.2.2]; exact hlq
    have hbw := HB1.out.2.trans (hQ.out.mono HB1.out.2.size)
    obtain ⟨b3, rfl, hb3, hc3⟩ := own_at (show w1.ownsRow w.heap.size 4 1 (.slice A3 ((List.range k).map (treeB f F l)).length c3) ((List.range k).map (treeB f F l)).length (((List.range k).map (treeB f F l)).map Value.bool) from HB1.out.1) (by rw [List.length_map, List.length_range]; omega)
    have s3 : wr.cell? ⟨b3, q, none⟩ = some (.bool (treeB f F l q)) := (hQ.out.cell (p := ⟨b3, q, none⟩) hb3).trans (hc3 q _ (by rw [List.getElem?_map, List.getElem?_map, List.getElem?_range hlq]; rfl))
    obtain ⟨bl, ofl, rfl, hbl, hc⟩ := H.out.2.2.2.2.1 q hql
    have hc := hc.below hbw hbl
    have hmem : l.getD q li0 ∈ l := by rw [List.getD_eq_getElem?_getD, List.getElem?_eq_getElem hql]; exact List.getElem_mem hql
    have hpos := H.out.2.2.2.2.2.2.2.1 _ hmem
    have hd1 := H.out.2.2.2.2.2.1.ok (mem_dirs.2 ⟨_, List.mem_map_of_mem hmem, .inl rfl⟩ : (l.getD q li0).lk.d1 ∈ dirs (l.map Li.lk))
    have hd2 := H.out.2.2.2.2.2.1.ok (mem_dirs.2 ⟨_, List.mem_map_of_mem hmem, .inr rfl⟩ : (l.getD q li0).lk.d2 ∈ dirs (l.map Li.lk))
    have htb := H.out.2.2.2.2.2.2.2.2.1 q hlq
    rw [htb] at s3
    obtain ⟨x, hx⟩ : ∃ x, l.getD q li0 = x := ⟨_, rfl⟩
    rw [hx] at hc hpos hd1 hd2 s3
    obtain ⟨xa, xpa, xb, xpb, xca, xcb⟩ := x
    have hpos : 0 ≤ xa ∧ 0 ≤ xb := hpos
    obtain ⟨a, rfl⟩ : ∃ a : Nat, xa = a := ⟨xa.toNat, by omega⟩
    obtain ⟨b, rfl⟩ : ∃ b : Nat, xb = b := ⟨xb.toNat, by omega⟩
    have han : a < n := hd2.v
    have hbn : b < n := hd1.v
    have hpa : 0 ≤ xpa ∧ xpa ≤ 5 := hd2.pv
    have hpb : 0 ≤ xpb ∧ xpb ≤ 5 := hd1.pv
    obtain ⟨pa, rfl⟩ : ∃ p : Nat, xpa = p := ⟨xpa.toNat, by omega⟩
    obtain ⟨pb, rfl⟩ : ∃ p : Nat, xpb = p := ⟨xpb.toNat, by omega⟩
    obtain ⟨sa, hsa⟩ : ∃ s, stateP (B a pa) now = s := ⟨_, rfl⟩
    obtain ⟨sb, hsb⟩ : ∃ s, stateP (B b pb) now = s := ⟨_, rfl⟩
    replace s3 : wr.cell? ⟨b3, q, none⟩ = some (.bool (decide (stateP (B a pa) now = 2) && decide (stateP (B b pb) now = 2))) := s3
    rw [hsa, hsb] at s3
    obtain ⟨p0, p1, p2, p3, p4, p5⟩ := hc
    have hbx := Blk.new wr 99 #[.int .i64 a, .int .i64 pa, .int .i64 b, .int .i64 pb, .int .i64 xca, .int .i64 xcb]
    have hba := bel_alloc wr (.cells #[.int .i64 a, .int .i64 pa, .int .i64 b, .int .i64 pb, .int .i64 xca, .int .i64 xcb] 99)
    have hbW := hQ.out.trans (hba.mono hQ.out.size)
    have hbW2 := hbw.trans (hba.mono hbw.size)
    obtain ⟨W, hW⟩ : ∃ W, wr.alloc (.cells #[.int .i64 a, .int .i64 pa, .int .i64 b, .int .i64 pb, .int .i64 xca, .int .i64 xcb] 99) = W := ⟨_, rfl⟩
    obtain ⟨G, hG⟩ : ∃ G, wr.heap.size = G := ⟨_, rfl⟩
    rw [hW] at hbx hba hbW hbW2
    rw [hG] at hbx
    have r0 : W.cell? ⟨G, 0, none⟩ = some (.int .i64 a) := hbx.cell 0
    have r1 : W.cell? ⟨G, 1, none⟩ = some (.int .i64 pa) := hbx.cell 1
    have r2 : W.cell? ⟨G, 2, none⟩ = some (.int .i64 b) := hbx.cell 2
    have r3 : W.cell? ⟨G, 3, none⟩ = some (.int .i64 pb) := hbx.cell 3
    have hAW := H.out.2.1.below hbW2
    have hOW : OwnP W base A0 c0 ((List.range n).map g) := own_heap H.out.1 fun q hq => hbW2.block q (World.ownsRow.lt H.out.1 q hq).2
    obtain ⟨bo, rfl, _, _, ta⟩ := hOW.at_ (k := a) (by rw [List.length_map, List.length_range]; exact han)
    rw [range_getD g han] at ta
    have tb := hOW.cell_ hbn
    have hs : ∀ x i, x < n → i < 6 → wrap64 (now - (B x i).since) = now - (B x i).since := fun x i hx hi => by
      have h1 := (H.out.2.2.1 x hx i hi).since
      have h2 := H.out.2.2.2.1
      exact IntWalk.wrap64_in _ (by omega)
    have hS1 := tstate_in (TreeAt.drew (hAW.at_ a han)) pa now (by omega) (hs a pa han (by omega))
    have hS2 := tstate_in (TreeAt.drew (hAW.at_ b hbn)) pb now (by omega) (hs b pb hbn (by omega))
    rw [hsa] at hS1
    rw [hsb] at hS2
    have hq1 : ∀ m, Calls Try.prog 16 #[.pointer (some ⟨g a, 0, none⟩), .int .i64 pa, .int .i64 now] (W.drewN m) fun e w' => e = .returned (.int .i64 sa) ∧ w' = W.drewN m := fun m => by
      have := tstate_in (TreeAt.drewN (hAW.at_ a han) m) pa now (by omega) (hs a pa han (by omega))
      rw [hsa] at this
      exact this.mono fun _ _ h => ⟨h.1, h.2.symm⟩
    have HQ1 := Lib.hid hq1
    clear hq1
    have HS1 := Lib.hid hS1
    have HS2 := Lib.hid hS2
    have HE := Lib.hid (And.intro hbW.drew hbW)
    have a1 : (a : Int) < n := by omega
    have b1 : (b : Int) < n := by omega
    have cD : W.drew.cell? ⟨G, 0, none⟩ = some (.int .i64 a) ∧ W.drew.cell? ⟨bo, a, none⟩ = some (.pointer (some ⟨g a, 0, none⟩)) ∧ W.drew.cell? ⟨G, 1, none⟩ = some (.int .i64 pa) ∧ W.drew.cell? ⟨G, 2, none⟩ = some (.int .i64 b) ∧ W.drew.cell? ⟨bo, b, none⟩ = some (.pointer (some ⟨g b, 0, none⟩)) ∧ W.drew.cell? ⟨G, 3, none⟩ = some (.int .i64 pb) := ⟨r0, ta, r1, r2, tb, r3⟩
    have CD := Lib.hid cD
    clear hS1 hS2 hs hsa hsb hAW hOW hbW hbW2 hba hbx hpa hpb han hbn hpos hd1 hd2 htb hmem hx hbl hbw hb3 hc3 hql hQ cD
    by_cases e1 : sa = 2
    · have d1 : (sa == 2) = true := beq_iff_eq.2 e1
      rw [decide_eq_true e1] at s3
      clear e1
      by_cases e2 : sb = 2
      · have d2 : (sb == 2) = true := beq_iff_eq.2 e2
        rw [decide_eq_true e2, Bool.true_and] at s3
        clear e2
        go_wp2_with fail
        have cD := CD.out
        go_region_held3 (fun w' => w'.cell? ⟨G, 0, none⟩ = some (.int .i64 a) ∧ w'.cell? ⟨bo, a, none⟩ = some (.pointer (some ⟨g a, 0, none⟩)) ∧ w'.cell? ⟨G, 1, none⟩ = some (.int .i64 pa) ∧ w'.cell? ⟨G, 2, none⟩ = some (.int .i64 b) ∧ w'.cell? ⟨bo, b, none⟩ = some (.pointer (some ⟨g b, 0, none⟩)) ∧ w'.cell? ⟨G, 3, none⟩ = some (.int .i64 pb))
          (with_reducible exact cD)
          (first
            | (go_at_call 16; (with_reducible (refine HS1.out.mono ?_)); rintro e w' ⟨rfl, rfl⟩)
            | (go_at_call 16; (with_reducible (refine HS2.out.mono ?_)); rintro e w' ⟨rfl, rfl⟩))
        clear cD r0 r1 r2 r3 ta tb
        go_wp2_with fail
        go_roundw
        case rel =>
          rw [HJQ.out]
          exact ⟨q + 1, hlq, by rw [Int.natCast_add]; rfl, Lib.hid HE.out.1⟩
        case measure =>
          rw [HJQ.out]
          show k - ((q : Int) + 1).toNat < k - ((q : Int)).toNat
          omega
      · have d2 : (sb == 2) = false := beq_eq_false_iff_ne.2 e2
        rw [decide_eq_false e2, Bool.and_false] at s3
        clear e2
        go_wp2_with fail
        have cD := CD.out
        go_region_held3 (fun w' => w'.cell? ⟨G, 0, none⟩ = some (.int .i64 a) ∧ w'.cell? ⟨bo, a, none⟩ = some (.pointer (some ⟨g a, 0, none⟩)) ∧ w'.cell? ⟨G, 1, none⟩ = some (.int .i64 pa) ∧ w'.cell? ⟨G, 2, none⟩ = some (.int .i64 b) ∧ w'.cell? ⟨bo, b, none⟩ = some (.pointer (some ⟨g b, 0, none⟩)) ∧ w'.cell? ⟨G, 3, none⟩ = some (.int .i64 pb))
          (with_reducible exact cD)
          (first
            | (go_at_call 16; (with_reducible (refine HS1.out.mono ?_)); rintro e w' ⟨rfl, rfl⟩)
            | (go_at_call 16; (with_reducible (refine HS2.out.mono ?_)); rintro e w' ⟨rfl, rfl⟩))
        clear cD r0 r1 r2 r3 ta tb
        go_wp2_with fail
        go_roundw
        case rel =>
          rw [HJQ.out]
          exact ⟨q + 1, hlq, by rw [Int.natCast_add]; rfl, Lib.hid HE.out.1⟩
        case measure =>
          rw [HJQ.out]
          show k - ((q : Int) + 1).toNat < k - ((q : Int)).toNat
          omega
    · have d1 : (sa == 2) = false := beq_eq_false_iff_ne.2 e1
      rw [decide_eq_false e1, Bool.false_and] at s3
      clear e1 CD r2 r3 tb b1 HS2
      go_wp2_with fail
      go_quiet ((go_at_call 16; exact Calls.quiet_of_same (HQ1.out _)))
      clear r0 r1 ta
      go_wp2_with fail
      go_roundw
      case rel =>
        rw [HJQ.out]
        exact ⟨q + 1, hlq, by rw [Int.natCast_add]; rfl, Lib.hid (bel_drewN HE.out.2 _)⟩
      case measure =>
        rw [HJQ.out]
        show k - ((q : Int) + 1).toNat < k - ((q : Int)).toNat
        omega
end Go.Proofs.Ytadejdhdkkfliaa
