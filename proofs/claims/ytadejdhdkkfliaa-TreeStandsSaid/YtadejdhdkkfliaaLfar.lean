/- far: where the link of a port leads. Its condition: at most 16 links. -/
import Derived.Test.YtadejdhdkkfliaaLk
namespace Go.Proofs.Ytadejdhdkkfliaa
open Go.RowKit
set_option maxRecDepth 100000

/-- Where a port's link leads; -1 where it has none. -/
def wayL : List Li → Int → Int → Int × Int
  | [], _, _ => (-1, 0)
  | x :: l, b, p => if x.a = b ∧ x.pa = p then (x.b, x.pb) else if x.b = b ∧ x.pb = p then (x.a, x.pa) else wayL l b p
theorem wayL_drop (l : List Li) (q : Nat) (h : q < l.length) (b p : Int) : wayL (l.drop q) b p = if (l.getD q li0).a = b ∧ (l.getD q li0).pa = p then ((l.getD q li0).b, (l.getD q li0).pb) else if (l.getD q li0).b = b ∧ (l.getD q li0).pb = p then ((l.getD q li0).a, (l.getD q li0).pa) else wayL (l.drop (q + 1)) b p := by
  rw [List.drop_eq_getElem_cons h]
  rw [List.getD_eq_getElem?_getD, List.getElem?_eq_getElem h]
  rfl
set_option maxHeartbeats 4000000 in
theorem far_any (A2 : Option Addr) (c2 : Nat) (l : List Li) (b p : Int) (w : World) (h2 : LiAt w w.heap.size A2 l) (hk : l.length ≤ 16) :
    Calls Try.prog 30 #[.slice A2 l.length c2, .int .i64 b, .int .i64 p] w fun e w' => e = .returned (.tuple #[.int .i64 (wayL l b p).1, .int .i64 (wayL l b p).2]) ∧ Below w.heap.size w w' := by
  obtain ⟨k, hkl⟩ : ∃ k, l.length = k := ⟨_, rfl⟩
  have H := Lib.hid (And.intro h2 (And.intro (hkl ▸ hk : k ≤ 16) hkl))
  rw [hkl]
  clear h2 hk hkl
  go_enter Try.func30, Try.ntmps30
  go_wp2_with fail
  go_loopw [12] (fun iv wr => ∃ q : Nat, q ≤ k ∧ iv = .int .i64 q ∧ Hid (wayL (l.drop q) b p = wayL l b p ∧ Below w.heap.size w wr)) (fun iv _ => k - (intOf iv).toNat)
  case atStart => exact ⟨0, Nat.zero_le _, rfl, Lib.hid ⟨rfl, Below.refl _ _⟩⟩
  case round =>
    obtain ⟨q, hq, rfl, hQ⟩ := hrel
    by_cases hlq : q < k
    rotate_left
    · obtain rfl : k = q := by omega
      go_wp2_with fail
      go_ret2
      refine ⟨?_, hQ.out.2⟩
      have h := hQ.out.1
      rw [← H.out.2.2, List.drop_length] at h
      rw [← h]
      rfl
    have q1 : (q : Int) < k := by omega
    have q0 : (0 : Int) ≤ q := by omega
    have HJQ := Lib.hid (show wrap64 ((q : Int) + 1) = (q : Int) + 1 from IntWalk.wrap64_in _ (by have := H.out.2.1; omega))
    have hql : q < l.length := by rw [H.out.2.2]; exact hlq
    obtain ⟨hF, hbw⟩ := hQ.out
    rw [wayL_drop l q hql] at hF
    obtain ⟨bl, ofl, rfl, hbl, hc⟩ := H.out.1 q hql
    have hc := hc.below hbw hbl
    obtain ⟨x, hx⟩ : ∃ x, l.getD q li0 = x := ⟨_, rfl⟩
    rw [hx] at hc hF
    obtain ⟨xa, xpa, xb, xpb, xca, xcb⟩ := x
    obtain ⟨p0, p1, p2, p3, p4, p5⟩ := hc
    have hbx := Blk.new wr 99 #[.int .i64 xa, .int .i64 xpa, .int .i64 xb, .int .i64 xpb, .int .i64 xca, .int .i64 xcb]
    have HB2 := Lib.hid (hbw.alloc hbw.size (.cells #[.int .i64 xa, .int .i64 xpa, .int .i64 xb, .int .i64 xpb, .int .i64 xca, .int .i64 xcb] 99))
    have r0 : (wr.alloc (.cells #[.int .i64 xa, .int .i64 xpa, .int .i64 xb, .int .i64 xpb, .int .i64 xca, .int .i64 xcb] 99)).cell? ⟨wr.heap.size, 0, none⟩ = some (.int .i64 xa) := hbx.cell 0
    have r1 : (wr.alloc (.cells #[.int .i64 xa, .int .i64 xpa, .int .i64 xb, .int .i64 xpb, .int .i64 xca, .int .i64 xcb] 99)).cell? ⟨wr.heap.size, 1, none⟩ = some (.int .i64 xpa) := hbx.cell 1
    have r2 : (wr.alloc (.cells #[.int .i64 xa, .int .i64 xpa, .int .i64 xb, .int .i64 xpb, .int .i64 xca, .int .i64 xcb] 99)).cell? ⟨wr.heap.size, 2, none⟩ = some (.int .i64 xb) := hbx.cell 2
    have r3 : (wr.alloc (.cells #[.int .i64 xa, .int .i64 xpa, .int .i64 xb, .int .i64 xpb, .int .i64 xca, .int .i64 xcb] 99)).cell? ⟨wr.heap.size, 3, none⟩ = some (.int .i64 xpb) := hbx.cell 3
    have HF := Lib.hid (show (if xa = b ∧ xpa = p then (xb, xpb) else if xb = b ∧ xpb = p then (xa, xpa) else wayL (l.drop (q + 1)) b p) = wayL l b p from hF)
    clear hx hF hbx hql hbw hbl hQ hc
    by_cases g0 : xa = b
    · have d0 : (xa == b) = true := beq_iff_eq.2 g0
      by_cases g1 : xpa = p
      · have d1 : (xpa == p) = true := beq_iff_eq.2 g1
        have HG := Lib.hid (And.intro g0 (g1))
        clear g0 g1
        go_wp2_with fail
        go_big_region
        go_wp2_with fail
        go_ret2
        refine ⟨?_, HB2.out.drew⟩
        have h := HF.out
        have hg := HG.out
        rw [if_pos (by omega)] at h
        rw [← h]
        rfl
      · have d1 : (xpa == p) = false := beq_eq_false_iff_ne.2 g1
        by_cases g2 : xb = b
        · have d2 : (xb == b) = true := beq_iff_eq.2 g2
          by_cases g3 : xpb = p
          · have d3 : (xpb == p) = true := beq_iff_eq.2 g3
            have HG := Lib.hid (And.intro g0 (And.intro g1 (And.intro g2 (g3))))
            clear g0 g1 g2 g3
            go_wp2_with fail
            go_big_region
            go_wp2_with fail
            go_ret2
            refine ⟨?_, HB2.out.drew⟩
            have h := HF.out
            have hg := HG.out
            rw [if_neg (by omega), if_pos (by omega)] at h
            rw [← h]
            rfl
          · have d3 : (xpb == p) = false := beq_eq_false_iff_ne.2 g3
            have HG := Lib.hid (And.intro g0 (And.intro g1 (And.intro g2 (g3))))
            clear g0 g1 g2 g3
            go_wp2_with fail
            go_roundw
            case rel =>
              rw [HJQ.out]
              refine ⟨q + 1, hlq, by rw [Int.natCast_add]; rfl, Lib.hid ⟨?_, HB2.out⟩⟩
              have h := HF.out
              have hg := HG.out
              rw [if_neg (by omega), if_neg (by omega)] at h
              exact h
            case measure =>
              rw [HJQ.out]
              show k - ((q : Int) + 1).toNat < k - ((q : Int)).toNat
              omega
        · have d2 : (xb == b) = false := beq_eq_false_iff_ne.2 g2
          have HG := Lib.hid (And.intro g0 (And.intro g1 (g2)))
          clear g0 g1 g2
          go_wp2_with fail
          go_roundw
          case rel =>
            rw [HJQ.out]
            refine ⟨q + 1, hlq, by rw [Int.natCast_add]; rfl, Lib.hid ⟨?_, HB2.out⟩⟩
            have h := HF.out
            have hg := HG.out
            rw [if_neg (by omega), if_neg (by omega)] at h
            exact h
          case measure =>
            rw [HJQ.out]
            show k - ((q : Int) + 1).toNat < k - ((q : Int)).toNat
            omega
    · have d0 : (xa == b) = false := beq_eq_false_iff_ne.2 g0
      by_cases g2 : xb = b
      · have d2 : (xb == b) = true := beq_iff_eq.2 g2
        by_cases g3 : xpb = p
        · have d3 : (xpb == p) = true := beq_iff_eq.2 g3
          have HG := Lib.hid (And.intro g0 (And.intro g2 (g3)))
          clear g0 g2 g3
          go_wp2_with fail
          go_big_region
          go_wp2_with fail
          go_ret2
          refine ⟨?_, HB2.out.drew⟩
          have h := HF.out
          have hg := HG.out
          rw [if_neg (by omega), if_pos (by omega)] at h
          rw [← h]
          rfl
        · have d3 : (xpb == p) = false := beq_eq_false_iff_ne.2 g3
          have HG := Lib.hid (And.intro g0 (And.intro g2 (g3)))
          clear g0 g2 g3
          go_wp2_with fail
          go_roundw
          case rel =>
            rw [HJQ.out]
            refine ⟨q + 1, hlq, by rw [Int.natCast_add]; rfl, Lib.hid ⟨?_, HB2.out⟩⟩
            have h := HF.out
            have hg := HG.out
            rw [if_neg (by omega), if_neg (by omega)] at h
            exact h
          case measure =>
            rw [HJQ.out]
            show k - ((q : Int) + 1).toNat < k - ((q : Int)).toNat
            omega
      · have d2 : (xb == b) = false := beq_eq_false_iff_ne.2 g2
        have HG := Lib.hid (And.intro g0 (g2))
        clear g0 g2
        go_wp2_with fail
        go_roundw
        case rel =>
          rw [HJQ.out]
          refine ⟨q + 1, hlq, by rw [Int.natCast_add]; rfl, Lib.hid ⟨?_, HB2.out⟩⟩
          have h := HF.out
          have hg := HG.out
          rw [if_neg (by omega), if_neg (by omega)] at h
          exact h
        case measure =>
          rw [HJQ.out]
          show k - ((q : Int) + 1).toNat < k - ((q : Int)).toNat
          omega
end Go.Proofs.Ytadejdhdkkfliaa
