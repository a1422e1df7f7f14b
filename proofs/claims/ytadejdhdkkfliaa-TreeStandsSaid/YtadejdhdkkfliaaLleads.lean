/- The document's leads: is a bridge's port to another one its root port? Its condition: the graph is one that fits. -/
import Derived.Test.YtadejdhdkkfliaaLvec
import Derived.Test.YtadejdhdkkfliaaVeq
import Derived.Deep.RegionHeld3
namespace Go.Proofs.Ytadejdhdkkfliaa
open Go.RowKit
set_option maxRecDepth 100000

theorem neq_vec (u v : Vec) (w : World) : (binOp .neq 32 u.v v.v).run Try.prog w = .ok (.bool (!decide (u = v))) w := by
  obtain ⟨u0, u1, u2, u3⟩ := u
  obtain ⟨v0, v1, v2, v3⟩ := v
  simp only [Vec.v, Vec.arr]
  by_cases h0 : u0 = v0
  · subst h0
    by_cases h1 : u1 = v1
    · subst h1
      by_cases h2 : u2 = v2
      · subst h2
        by_cases h3 : u3 = v3
        · subst h3
          go_simp
        · go_simp
      · go_simp
    · go_simp
  · go_simp
set_option maxHeartbeats 8000000 in
theorem leads_any (A : Option Addr) (n c : Nat) (f : Nat → Int) (A2 : Option Addr) (c2 : Nat) (l : List Li) (g cap : Nat) (F : Nat → Vec) (w : World) (h : IdAt w w.heap.size A n f) (h2 : LiAt w w.heap.size A2 l) (hF : VsAt w g n F) (hK : Big n f (l.map Li.lk)) (hL : l.length ≤ 16) (ha : ∀ x ∈ l, 0 ≤ x.a ∧ 0 ≤ x.b)
    (d : Dl) (hd : d ∈ dirs (l.map Li.lk)) (hw : 0 ≤ (F d.u).cost + d.cv ∧ (F d.u).cost + d.cv ≤ 9223372036854775807) :
    Calls Try.prog 51 #[.slice A n c, .slice A2 l.length c2, .slice (some ⟨g, 0, none⟩) n cap, .int .i64 d.v, .int .i64 d.pv, .int .i64 d.cv, .int .i64 d.u, .int .i64 d.pu] w fun e w' => e = .returned (.bool (decide (leadsE f F d.ed))) ∧ Below w.heap.size w w' := by
  obtain ⟨k, hk⟩ : ∃ k, l.length = k := ⟨_, rfl⟩
  have hdo := hK.ok hd
  have hnl := fun x (hx : x ∈ l) => no_lower hK.fits hd (l := x.lk) (List.mem_map_of_mem hx)
  obtain ⟨u, pu, v, pv, cv⟩ := d
  simp only at hw
  have hu : u < n := hdo.u
  have hv : v < n := hdo.v
  have hne : u ≠ v := hdo.ne
  have H := Lib.hid (And.intro h2 (And.intro (hk ▸ hL : k ≤ 16) (And.intro ha (And.intro hk hnl))))
  have hlead : decide (leadsE f F (Dl.ed ⟨u, pu, v, pv, cv⟩)) = (decide (F v = ⟨(F u).root, (F u).cost + cv, f u, pu⟩) && decide ((F u).root < f v)) :=
    (show decide (leadsE f F (Dl.ed ⟨u, pu, v, pv, cv⟩)) = decide (F v = ⟨(F u).root, (F u).cost + cv, f u, pu⟩ ∧ (F u).root < f v) from decide_eq_decide.2 Iff.rfl).trans (Bool.decide_and _ _)
  rw [hlead, hk]
  obtain ⟨ba, oa, rfl, hba, hcu⟩ := h u hu
  obtain ⟨ba', oa', e, hba', hcv⟩ := h v hv
  injection e with e
  injection e with e3 e4
  subst e3 e4
  obtain ⟨x0, x1, x2, x3⟩ := hF.cells hu
  obtain ⟨y0, y1, y2, y3⟩ := hF.cells hv
  obtain ⟨su, hsu⟩ : ∃ su, (F u).cost + cv = su := ⟨_, rfl⟩
  have hq := fun w => neq_vec (F v) ⟨(F u).root, su, f u, pu⟩ w
  rw [hsu] at hw ⊢
  obtain ⟨bq, hbq⟩ : ∃ bq, decide (F v = ⟨(F u).root, su, f u, pu⟩) = bq := ⟨_, rfl⟩
  rw [hbq] at hq ⊢
  obtain ⟨Fu, hFu⟩ : ∃ x, F u = x := ⟨_, rfl⟩
  obtain ⟨Fv, hFv⟩ : ∃ x, F v = x := ⟨_, rfl⟩
  rw [hFu] at x0 x1 x2 x3 hq hsu ⊢
  rw [hFv] at y0 y1 y2 y3 hq
  obtain ⟨fu, hfu⟩ : ∃ x, f u = x := ⟨_, rfl⟩
  obtain ⟨fv, hfv⟩ : ∃ x, f v = x := ⟨_, rfl⟩
  rw [hfu] at hcu hq
  rw [hfv] at hcv ⊢
  obtain ⟨ur, uc, ub, up⟩ := Fu
  obtain ⟨vr, vc, vb, vp⟩ := Fv
  simp only [Vec.v, Vec.arr] at hq
  have u1 : (u : Int) < n := by omega
  have u0 : (0 : Int) ≤ u := by omega
  have v1 : (v : Int) < n := by omega
  have v0 : (0 : Int) ≤ v := by omega
  have k0 : (0 : Int) ≤ k := by omega
  have n0 : (0 : Int) ≤ n := by omega
  have hwu : wrap64 (uc + cv) = su := by rw [show uc + cv = su from hsu]; exact IntWalk.wrap64_in _ (by omega)
  have hwk : IntKind.i64.wrap (uc + cv) = su := by have e : uc + cv = su := hsu; rw [e, IntKind.wrap_i64]; omega
  have dne : ((v : Int) == u) = false := by simp; omega
  have hglt := hF.lt
  have hbaw : ba < w.heap.size := hba
  have hbe := bel_alloc w (.cells #[.int .i64 ur, .int .i64 su, .int .i64 fu, .int .i64 pu] 32)
  clear h h2 hF hK hL ha hd hdo hnl hk hlead hba hba' hu hv hne hsu hw hbq hFu hFv hfu hfv
  go_enter Try.func51, Try.ntmps51
  go_wp2_with fail
  have n1 := World.new_ne w ⟨g, u * 4, none⟩ x0
  have n2 := World.new_ne w ⟨ba, oa + u, none⟩ hcu
  go_region_held3 (fun w' => w'.cell? ⟨g, u * 4, none⟩ = some (.int .i64 ur) ∧ w'.cell? ⟨g, u * 4 + 1, none⟩ = some (.int .i64 uc) ∧ w'.cell? ⟨ba, oa + u, none⟩ = some (.int .i64 fu)) (first | exact ⟨x0, x1, hcu⟩ | go_keep) (fail)
  obtain ⟨W, hW⟩ : ∃ W, (w.alloc (.cells #[.int .i64 ur, .int .i64 su, .int .i64 fu, .int .i64 pu] 32)).drew = W := ⟨_, rfl⟩
  rw [hW]
  have hbk : Blk W w.heap.size 32 #[.int .i64 ur, .int .i64 su, .int .i64 fu, .int .i64 pu] := by rw [← hW]; exact (Blk.new w _ _).drew
  have hbW : Below w.heap.size w W := by rw [← hW]; exact hbe.drew
  have z0 : W.cell? ⟨w.heap.size, 0, none⟩ = some (.int .i64 ur) := hbk.cell 0
  have z1 : W.cell? ⟨w.heap.size, 1, none⟩ = some (.int .i64 su) := hbk.cell 1
  have z2 : W.cell? ⟨w.heap.size, 2, none⟩ = some (.int .i64 fu) := hbk.cell 2
  have z3 : W.cell? ⟨w.heap.size, 3, none⟩ = some (.int .i64 pu) := hbk.cell 3
  have t0 : W.cell? ⟨g, v * 4, none⟩ = some (.int .i64 vr) := (hbW.cell (p := ⟨g, v * 4, none⟩) hglt).trans y0
  have t1 : W.cell? ⟨g, v * 4 + 1, none⟩ = some (.int .i64 vc) := (hbW.cell (p := ⟨g, v * 4 + 1, none⟩) hglt).trans y1
  have t2 : W.cell? ⟨g, v * 4 + 2, none⟩ = some (.int .i64 vb) := (hbW.cell (p := ⟨g, v * 4 + 2, none⟩) hglt).trans y2
  have t3 : W.cell? ⟨g, v * 4 + 3, none⟩ = some (.int .i64 vp) := (hbW.cell (p := ⟨g, v * 4 + 3, none⟩) hglt).trans y3
  have tv : W.cell? ⟨ba, oa + v, none⟩ = some (.int .i64 fv) := (hbW.cell (p := ⟨ba, oa + v, none⟩) hbaw).trans hcv
  have HBW := Lib.hid (show Below w.heap.size w W.drew from hbW.drew)
  clear n1 n2 x0 x1 x2 x3 y0 y1 y2 y3 hcu hcv hW hbk hbW hbe
  cases bq with
  | false =>
    simp only [Bool.not_false] at hq
    go_wp2_with fail
    go_big_region
    go_wp2_with fail
    go_ret
    exact ⟨by simp, HBW.out⟩
  | true =>
    simp only [Bool.not_true] at hq
    by_cases hge : ur ≥ fv
    · have dge : decide (ur ≥ fv) = true := decide_eq_true hge
      go_wp2_with fail
      go_big_region
      go_wp2_with fail
      go_ret
      exact ⟨by simp; omega, HBW.out⟩
    · have dge : decide (ur ≥ fv) = false := decide_eq_false hge
      have dge2 : decide (fv ≤ ur) = false := decide_eq_false hge
      have HR := Lib.hid (show (true && decide (ur < fv)) = true by rw [Bool.true_and]; exact decide_eq_true (by omega))
      go_wp2_with fail
      go_big_region
      go_wp2_with fail
      go_loopw [60] (fun iv wr => ∃ q : Nat, q ≤ k ∧ iv = .int .i64 q ∧ Hid (Below w.heap.size w wr)) (fun iv _ => k - (intOf iv).toNat)
      case atStart => exact ⟨0, Nat.zero_le _, rfl, HBW⟩
      case round =>
        obtain ⟨q, hq, rfl, hB⟩ := hrel
        by_cases hlq : q < k
        · have q1 : (q : Int) < k := by omega
          have q0 : (0 : Int) ≤ q := by omega
          have HJ := Lib.hid (show wrap64 ((q : Int) + 1) = (q : Int) + 1 from IntWalk.wrap64_in _ (by have := H.out.2.1; omega))
          have hql : q < l.length := by rw [H.out.2.2.2.1]; exact hlq
          obtain ⟨bl, ofl, rfl, hbl, hc⟩ := H.out.1 q hql
          have hc := hc.below hB.out hbl
          have hmem : l.getD q li0 ∈ l := by rw [List.getD_eq_getElem?_getD, List.getElem?_eq_getElem hql]; exact List.getElem_mem hql
          have hn := H.out.2.2.2.2 _ hmem
          have hpos := H.out.2.2.1 _ hmem
          obtain ⟨x, hx⟩ : ∃ x, l.getD q li0 = x := ⟨_, rfl⟩
          rw [hx] at hc hn hpos
          obtain ⟨xa, xpa, xb, xpb, xca, xcb⟩ := x
          have hpos : 0 ≤ xa ∧ 0 ≤ xb := hpos
          obtain ⟨p0, p1, p2, p3, p4, p5⟩ := hc
          have hbx := Blk.new wr 99 #[.int .i64 xa, .int .i64 xpa, .int .i64 xb, .int .i64 xpb, .int .i64 xca, .int .i64 xcb]
          have r0 : (wr.alloc (.cells #[.int .i64 xa, .int .i64 xpa, .int .i64 xb, .int .i64 xpb, .int .i64 xca, .int .i64 xcb] 99)).cell? ⟨wr.heap.size, 0, none⟩ = some (.int .i64 xa) := hbx.cell 0
          have r1 : (wr.alloc (.cells #[.int .i64 xa, .int .i64 xpa, .int .i64 xb, .int .i64 xpb, .int .i64 xca, .int .i64 xcb] 99)).cell? ⟨wr.heap.size, 1, none⟩ = some (.int .i64 xpa) := hbx.cell 1
          have r2 : (wr.alloc (.cells #[.int .i64 xa, .int .i64 xpa, .int .i64 xb, .int .i64 xpb, .int .i64 xca, .int .i64 xcb] 99)).cell? ⟨wr.heap.size, 2, none⟩ = some (.int .i64 xb) := hbx.cell 2
          have r3 : (wr.alloc (.cells #[.int .i64 xa, .int .i64 xpa, .int .i64 xb, .int .i64 xpb, .int .i64 xca, .int .i64 xcb] 99)).cell? ⟨wr.heap.size, 3, none⟩ = some (.int .i64 xpb) := hbx.cell 3
          have HB2 := Lib.hid (hB.out.alloc hB.out.size (.cells #[.int .i64 xa, .int .i64 xpa, .int .i64 xb, .int .i64 xpb, .int .i64 xca, .int .i64 xcb] 99))
          have hc1 : ((xa == (v : Int)) = false) ∨ ((xa == (v : Int)) = true ∧ (xb == (u : Int)) = false) ∨ ((xa == (v : Int)) = true ∧ (xb == (u : Int)) = true ∧ (xpb == pu) = false) ∨ ((xa == (v : Int)) = true ∧ (xb == (u : Int)) = true ∧ (xpb == pu) = true ∧ decide (xpa < pv) = false) := by
            by_cases a1 : xa = (v : Int)
            · by_cases a2 : xb = (u : Int)
              · by_cases a3 : xpb = pu
                · refine .inr (.inr (.inr ⟨by simpa using a1, by simpa using a2, by simpa using a3, decide_eq_false fun a4 => ?_⟩))
                  exact hn.1 ⟨by show xa.toNat = v; omega, by show xb.toNat = u; omega, a3, a4⟩
                · exact .inr (.inr (.inl ⟨by simpa using a1, by simpa using a2, by simpa using a3⟩))
              · exact .inr (.inl ⟨by simpa using a1, by simpa using a2⟩)
            · exact .inl (by simpa using a1)
          have hc2 : ((xb == (v : Int)) = false) ∨ ((xb == (v : Int)) = true ∧ (xa == (u : Int)) = false) ∨ ((xb == (v : Int)) = true ∧ (xa == (u : Int)) = true ∧ (xpa == pu) = false) ∨ ((xb == (v : Int)) = true ∧ (xa == (u : Int)) = true ∧ (xpa == pu) = true ∧ decide (xpb < pv) = false) := by
            by_cases a1 : xb = (v : Int)
            · by_cases a2 : xa = (u : Int)
              · by_cases a3 : xpa = pu
                · refine .inr (.inr (.inr ⟨by simpa using a1, by simpa using a2, by simpa using a3, decide_eq_false fun a4 => ?_⟩))
                  exact hn.2 ⟨by show xb.toNat = v; omega, by show xa.toNat = u; omega, a3, a4⟩
                · exact .inr (.inr (.inl ⟨by simpa using a1, by simpa using a2, by simpa using a3⟩))
              · exact .inr (.inl ⟨by simpa using a1, by simpa using a2⟩)
            · exact .inl (by simpa using a1)
          clear hn hpos hmem hx hbl hbx hql t0 t1 t2 t3 tv z0 z1 z2 z3
          rcases hc1 with h1 | ⟨h1, h2⟩ | ⟨h1, h2, h3⟩ | ⟨h1, h2, h3, h4⟩ <;> rcases hc2 with k1 | ⟨k1, k2⟩ | ⟨k1, k2, k3⟩ | ⟨k1, k2, k3, k4⟩
          all_goals
            go_wp2_with fail
            go_roundw
            case rel =>
              rw [HJ.out]
              exact ⟨q + 1, hlq, by rw [Int.natCast_add]; rfl, HB2⟩
            case measure =>
              rw [HJ.out]
              show k - ((q : Int) + 1).toNat < k - ((q : Int)).toNat
              omega
        · obtain rfl : k = q := by omega
          go_wp2_with fail
          go_ret
          exact ⟨ret_bool HR.out.symm, hB.out⟩
end Go.Proofs.Ytadejdhdkkfliaa
