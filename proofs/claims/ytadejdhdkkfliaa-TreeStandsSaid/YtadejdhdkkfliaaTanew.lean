/- Roles anew, as a contract. Its condition: up to six ports. -/
import Derived.Test.YtadejdhdkkfliaaTmem
namespace Go.Proofs.Ytadejdhdkkfliaa
open Go.RowKit
set_option maxRecDepth 100000

theorem roleAt_range (id : Int) (l : List Hd) (i : Nat) : 1 ≤ roleAt id l i ∧ roleAt id l i ≤ 3 := by
  unfold roleAt roleO
  split
  · exact ⟨by decide, by decide⟩
  · split <;> exact ⟨by decide, by decide⟩
theorem roleP_range (id : Int) (m : Nat) (f : Nat → Pt) (i : Nat) : 0 ≤ roleP id m f i ∧ roleP id m f i ≤ 3 := by
  unfold roleP
  split
  · have := roleAt_range id (hds m f) i; omega
  · exact ⟨by decide, by decide⟩
/-- The row of roles, of which the first j are as they are to be. -/
def rowTo (id : Int) (m : Nat) (f : Nat → Pt) (j : Nat) (i : Nat) : Int := if i < j then roleP id m f i else roleAt id (hds m f) i
theorem rowTo_ne {id : Int} {m : Nat} {f : Nat → Pt} {j i : Nat} (h : i ≠ j) : rowTo id m f (j + 1) i = rowTo id m f j i := by
  unfold rowTo
  by_cases hl : i < j
  · rw [if_pos hl, if_pos (by omega)]
  · rw [if_neg hl, if_neg (by omega)]
theorem rowTo_at (id : Int) (m : Nat) (f : Nat → Pt) (j : Nat) : rowTo id m f (j + 1) j = roleP id m f j := if_pos (Nat.lt_succ_self j)
theorem rowTo_old (id : Int) (m : Nat) (f : Nat → Pt) (j : Nat) : rowTo id m f j j = roleAt id (hds m f) j := if_neg (Nat.lt_irrefl j)
theorem rowTo_same {id : Int} {m : Nat} {f : Nat → Pt} {j : Nat} (h : roleP id m f j = roleAt id (hds m f) j) (i : Nat) : rowTo id m f (j + 1) i = rowTo id m f j i := by
  by_cases e : i = j
  · subst e
    rw [rowTo_at, rowTo_old, h]
  · exact rowTo_ne e
set_option maxHeartbeats 4000000 in
theorem anew_any (g gp : Nat) (id : Int) (m : Nat) (f : Nat → Pt) (fw : Nat → Bool) (bv : Vec) (rt ch now : Int) (hm : m ≤ 6) (w : World) (h : TreeAt w g gp id m f fw bv rt ch) (hok : ∀ i, i < m → (hdOf (f i)).ok) (hdown : ∀ i, i < m → (f i).up = false → (f i).none = true) :
    Calls Try.prog 39 #[.pointer (some ⟨g, 0, none⟩), .int .i64 now] w fun e w' => e = .returned (.tuple #[]) ∧ TreeAt w' g gp id m (anewP id m now f) fw (bestP id m f).1 (bestP id m f).2 ch ∧ Touch (fun k => k = g ∨ k = gp) w w' := by
  have H := Lib.hid h
  have HM := Lib.hid hm
  have HOK := Lib.hid (And.intro hok hdown)
  have t1 := h.t1
  clear hok hdown h hm
  have m0 : (0 : Int) ≤ m := by omega
  obtain ⟨i0, hi0, hz0, hz1, hz2⟩ := info_parts hd_info
  obtain ⟨w1, hms, hrow, hgr⟩ := run_makeSlice_full (P := Try.prog) (w := w) w.heap.size 106 86 i0 _ 7 Try.underlying106 hi0 hz0 hz1 .i64 .i64 m (by have := HM.out; omega) (by rw [hz2]; have := HM.out; omega) (by have := HM.out; unfold maxLen; omega) (Nat.le_refl _)
  obtain ⟨gl, hgl⟩ : ∃ z, w.heap.size = z := ⟨_, rfl⟩
  have hb1 : Below w.heap.size w w1 := ⟨hgr.os, hgr.tape, hgr.output, hgr.size, fun k hk => hgr.block k (by omega) (by simp)⟩
  have hl1 : ListAt w1 gl m (fun i => hdOf (f i)) 0 := by
    rcases hrow.2 with ⟨e0, _⟩ | ⟨g', cap', cur, e0, _, hg', _, _, hs', _⟩
    · cases e0
    · injection e0 with e1 _ e3
      injection e1 with e1
      injection e1 with e1
      rw [hgl] at e1
      subst e1 e3
      exact ⟨cur, hg', hs', fun k hk => absurd hk (Nat.not_lt_zero _)⟩
  have HST := Lib.hid (And.intro (H.out.below hb1) (And.intro hl1 (Below.touch hb1)))
  rw [hgl] at hms
  clear hi0 hz0 hz1 hz2 i0 hrow hgr hb1 hl1
  go_enter Try.func39, Try.ntmps39
  go_wp2_with fail
  clear hms
  go_loopw [17] (fun iv wr => ∃ j : Nat, j ≤ m ∧ iv = .int .i64 j ∧ Hid (TreeAt wr g gp id m f fw bv rt ch ∧ ListAt wr gl m (fun i => hdOf (f i)) j ∧ Touch (fun k => w.heap.size ≤ k) w wr)) (fun iv _ => m - (intOf iv).toNat)
  case atStart => exact ⟨0, Nat.zero_le _, rfl, HST⟩
  case round =>
    obtain ⟨j, hj, rfl, hS⟩ := hrel
    by_cases hlt : j < m
    · have j1 : (j : Int) < m := by omega
      have j0 : (0 : Int) ≤ j := by omega
      have HJ := Lib.hid (show wrap64 ((j : Int) + 1) = (j : Int) + 1 from IntWalk.wrap64_in _ (by have := HM.out; omega))
      have t1 := hS.out.1.t1
      have hc := hS.out.1.ports.cells hlt
      have c4 := hc.c4
      have c5 := hc.c5
      have c6 := hc.c6
      have c7 := hc.c7
      have c8 := hc.c8
      have c9 := hc.c9
      have c10 := hc.c10
      obtain ⟨⟨x0, y0⟩, z0⟩ := hS.out.2.1.can (k := j * 7) (by omega)
      obtain ⟨⟨x1, y1⟩, z1⟩ := hS.out.2.1.can (k := j * 7 + 1) (by omega)
      obtain ⟨⟨x2, y2⟩, z2⟩ := hS.out.2.1.can (k := j * 7 + 2) (by omega)
      obtain ⟨⟨x3, y3⟩, z3⟩ := hS.out.2.1.can (k := j * 7 + 3) (by omega)
      obtain ⟨⟨x4, y4⟩, z4⟩ := hS.out.2.1.can (k := j * 7 + 4) (by omega)
      obtain ⟨⟨x5, y5⟩, z5⟩ := hS.out.2.1.can (k := j * 7 + 5) (by omega)
      obtain ⟨⟨x6, y6⟩, z6⟩ := hS.out.2.1.can (k := j * 7 + 6) (by omega)
      have hnone : (hdOf (f j)).none = (f j).none := by
        show ((f j).none || !(f j).up) = (f j).none
        cases hu : (f j).up
        · rw [HOK.out.2 j hlt hu]; rfl
        · simp
      have hnx := hS.out.2.1.next hlt
      have hrest : TreeAt (set7 wr gl (j * 7) (hdOf (f j))) g gp id m f fw bv rt ch := by
        have h1 : g ≠ gl := fun e => by have := H.out.top.lt; omega
        have h2 : gp ≠ gl := fun e => by have := H.out.ports.lt; omega
        exact hS.out.1.block (set7_other _ _ _ _ h1) (set7_other _ _ _ _ h2)
      have htch : Touch (fun k => w.heap.size ≤ k) w (set7 wr gl (j * 7) (hdOf (f j))) :=
        set7_touch hS.out.2.2 (fun h => by omega) _ _
      have HNX := Lib.hid (And.intro hrest (And.intro hnx htch))
      unfold set7 at HNX
      rw [hnone] at HNX
      clear hc hnone hnx hrest htch hgl hj
      go_wp2_with fail
      go_roundw
      case rel =>
        rw [HJ.out]
        exact ⟨j + 1, hlt, by rw [Int.natCast_add]; rfl, HNX⟩
      case measure =>
        rw [HJ.out]
        show m - ((j : Int) + 1).toNat < m - ((j : Int)).toNat
        omega
    · obtain rfl : m = j := by omega
      have HA : HdAt wr wr.heap.size (some ⟨gl, 0, none⟩) (hds m f) := hS.out.2.1.at_ (hds_len m f) (fun i hi => hds_at m f i hi)
      have HR := roles_any (some ⟨gl, 0, none⟩) m id (hds m f) wr HA (fun x hx => by
        unfold hds at hx
        obtain ⟨i, hi, rfl⟩ := List.mem_map.1 hx
        exact HOK.out.1 i (List.mem_range.1 hi)) (by rw [hds_len]; have := HM.out; omega)
      rw [hds_len] at HR
      have HR := Lib.hid HR
      have t0 := hS.out.1.t0
      have t2 := hS.out.1.t2
      clear HA hj
      go_wp2_with fail
      refine HR.out.mono ?_
      rintro e w2 ⟨gR, rfl, hn2, hg2, b2⟩
      obtain ⟨nb, hnb⟩ : ∃ nb, (bestTo id (hds m f) m).1 = nb := ⟨_, rfl⟩
      rw [hnb]
      have h2 := hS.out.1.below b2
      have t1 := h2.t1
      have t2 := h2.t2
      have t3 := h2.t3
      have t4 := h2.t4
      have t5 := h2.t5
      have t6 := h2.t6
      have f2 := h2.top.frozen 2
      have f3 := h2.top.frozen 3
      have f4 := h2.top.frozen 4
      have f5 := h2.top.frozen 5
      have f6 := h2.top.frozen 6
      simp only [Vec.v, Vec.arr]
      go_wp2_with fail
      have H3 := Lib.hid (And.intro (h2.top5 nb (bestTo id (hds m f) m).2) (And.intro (show NumsAt (set5 w2 g nb (bestTo id (hds m f) m).2) gR m (roleAt id (hds m f)) m from hn2.other (fun e => by have := h2.top.lt; have := hS.out.1.top.lt; omega)) (And.intro (set5_touch ((hS.out.2.2.mono (fun k _ hk => .inr (.inr hk))).trans ((Below.touch b2).mono fun k hk hk' => .inr (.inr (by have := hS.out.2.2.size; omega))) : Touch (fun k => k = g ∨ k = gp ∨ w.heap.size ≤ k) w w2) (fun _ => .inl rfl) nb (bestTo id (hds m f) m).2) hg2)))
      unfold set5 at H3
      obtain ⟨W3, hW3⟩ : ∃ W3, ((((w2.setCell ⟨g, 2, none⟩ (.int .i64 nb.root)).setCell ⟨g, 3, none⟩ (.int .i64 nb.cost)).setCell ⟨g, 4, none⟩ (.int .i64 nb.bridge)).setCell ⟨g, 5, none⟩ (.int .i64 nb.port)).setCell ⟨g, 6, none⟩ (.int .i64 (bestTo id (hds m f) m).2) = W3 := ⟨_, rfl⟩
      rw [hW3] at H3 ⊢
      obtain ⟨nr, hnr⟩ : ∃ nr, (bestTo id (hds m f) m).2 = nr := ⟨_, rfl⟩
      have HB := Lib.hid (show (bestP id m f).1 = nb ∧ (bestP id m f).2 = nr from ⟨hnb, hnr⟩)
      rw [hnr] at H3 ⊢
      have t1 := H3.out.1.t1
      have HSZ := Lib.hid hS.out.2.2.size
      clear hW3 t0 t2 t3 t4 t5 t6 f2 f3 f4 f5 f6 hn2 hg2 b2 h2 HR hnr hnb
      go_loopw [53] (fun iv wr => ∃ j : Nat, j ≤ m ∧ iv = .int .i64 j ∧ Hid (TreeAt wr g gp id m (anewTo id m now f j) fw nb nr ch ∧ NumsAt wr gR m (rowTo id m f j) m ∧ Touch (fun k => k = g ∨ k = gp ∨ w.heap.size ≤ k) w wr)) (fun iv _ => m - (intOf iv).toNat)
      case atStart => exact ⟨0, Nat.zero_le _, rfl, Lib.hid ⟨H3.out.1.congr fun i _ => ⟨if_neg (Nat.not_lt_zero i), rfl⟩, H3.out.2.1.congr fun i => (if_neg (Nat.not_lt_zero i) : rowTo id m f 0 i = _), H3.out.2.2.1⟩⟩
      case round =>
        obtain ⟨j, hj, rfl, hS⟩ := hrel
        by_cases hlt : j < m
        · have j1 : (j : Int) < m := by omega
          have j0 : (0 : Int) ≤ j := by omega
          have HJ := Lib.hid (show wrap64 ((j : Int) + 1) = (j : Int) + 1 from IntWalk.wrap64_in _ (by have := HM.out; omega))
          have t1 := hS.out.1.t1
          have hc := hS.out.1.ports.cells hlt
          rw [show anewTo id m now f j j = f j from if_neg (by omega)] at hc
          have c3 := hc.c3
          have hgR : gp ≠ gR := fun e => by have := H.out.ports.lt; have := H3.out.2.2.2; have := H3.out.2.2.1.size; have := HSZ.out; omega
          have hgR' : g ≠ gR := fun e => by have := H.out.top.lt; have := H3.out.2.2.2; have := HSZ.out; omega
          have hset : ∀ wz, TreeAt wz g gp id m (anewTo id m now f j) fw nb nr ch →
              Calls Try.prog 56 #[.pointer (some ⟨gp, j * 12, none⟩), .int .i64 (roleP id m f j), .int .i64 now] wz fun e w' => (∃ b, e = .returned (.bool b)) ∧ TreeAt w' g gp id m (anewTo id m now f (j + 1)) fw nb nr ch ∧ Touch (fun k => k = gp) wz w' ∧ w'.heap[gR]? = wz.heap[gR]? := fun wz hz => by
            have hcz := hz.ports.cells hlt
            rw [show anewTo id m now f j j = f j from if_neg (by omega)] at hcz
            have q0 := hcz.c0
            have q1 := hcz.c1
            have hr := roleP_range id m f j
            by_cases he : (f j).role = roleP id m f j
            · rw [← he] at hr ⊢
              refine (pset_same gp (j * 12) (f j).role now hr.1 hr.2 wz q0).mono ?_
              rintro e w' ⟨rfl, rfl⟩
              exact ⟨⟨_, rfl⟩, hz.anew_same he, Touch.refl _ _, rfl⟩
            · refine (pset_new gp (j * 12) (f j).role (f j).since (roleP id m f j) now hr.1 hr.2 he wz q0 q1 (hz.ports.frozen _) (hz.ports.frozen _)).mono ?_
              rintro e w' ⟨rfl, rfl⟩
              exact ⟨⟨_, rfl⟩, hz.anew_new hlt he, ((Touch.refl (fun k => k = gp) wz).set_ (a := ⟨gp, _, none⟩) (fun _ => rfl) _).set_ (a := ⟨gp, _, none⟩) (fun _ => rfl) _, (Below.heap_setCell _ ⟨gp, _, none⟩ _ gR (fun e => hgR e.symm)).trans (Below.heap_setCell _ ⟨gp, _, none⟩ _ gR (fun e => hgR e.symm))⟩
          have HS := Lib.hid hset
          have c0 := hc.c0
          have c1 := hc.c1
          clear hset
          cases hu : (f j).up
          · have hrp : roleP id m f j = 0 := by unfold roleP; rw [if_neg (by rw [hu]; decide)]
            rw [hu] at c3
            rw [hrp] at HS
            obtain ⟨r0, z0⟩ := hS.out.2.1.one hlt (rowTo_old id m f j)
            have hn9 : NumsAt (wr.setCell ⟨gR, j, none⟩ (.int .i64 0)) gR m (rowTo id m f (j + 1)) m := by
              have := hS.out.2.1.set_ (k := j) (f' := rowTo id m f (j + 1)) hlt (fun i hi => rowTo_ne hi)
              rwa [rowTo_at, hrp] at this
            have HN9 := Lib.hid (And.intro hn9 (And.intro (hS.out.1.away (a := ⟨gR, j, none⟩) hgR' hgR (.int .i64 0)) (hS.out.2.2.set_ (a := ⟨gR, j, none⟩) (fun h => .inr (.inr (show w.heap.size ≤ gR by have := H3.out.2.2.2; have := HSZ.out; omega))) (.int .i64 0))))
            obtain ⟨W9, hW9⟩ : ∃ W9, wr.setCell ⟨gR, j, none⟩ (.int .i64 0) = W9 := ⟨_, rfl⟩
            have hr9 := (HN9.out.1.one hlt (by rw [rowTo_at, hrp])).1
            rw [hW9] at HN9 hr9
            clear hrp hn9 hc hj hgR hgR'
            go_wp2_with fail
            clear hW9 c0 c1 c3 t1 r0 z0
            go_region_law ((go_simp; go_at_call 56; refine (HS.out _ HN9.out.2.1.drew).mono ?_; rintro e w4 ⟨⟨bb, rfl⟩, h4, tc4, hk4⟩))
            have HN := Lib.hid (And.intro h4 (And.intro (HN9.out.1.drew.block hk4) (HN9.out.2.2.drew.trans (tc4.mono (q := fun k => k = g ∨ k = gp ∨ w.heap.size ≤ k) fun k _ hk => .inr (.inl hk)))))
            clear h4 tc4 hk4
            go_wp2_with fail
            go_roundw
            case rel =>
              rw [HJ.out]
              exact ⟨j + 1, hlt, by rw [Int.natCast_add]; rfl, HN⟩
            case measure =>
              rw [HJ.out]
              show m - ((j : Int) + 1).toNat < m - ((j : Int)).toNat
              omega
          · have hrp : roleP id m f j = roleAt id (hds m f) j := by unfold roleP; rw [if_pos hu]
            rw [hu] at c3
            obtain ⟨r0, z0⟩ := hS.out.2.1.one hlt (rowTo_old id m f j)
            rw [← hrp] at r0
            have HN9 := Lib.hid (hS.out.2.1.congr (rowTo_same hrp))
            clear hrp hc hj hgR hgR'
            go_wp2_with fail
            clear c0 c1 c3 t1 z0
            go_region_law ((go_simp; go_at_call 56; refine (HS.out _ hS.out.1.drew).mono ?_; rintro e w4 ⟨⟨bb, rfl⟩, h4, tc4, hk4⟩))
            have HN := Lib.hid (And.intro h4 (And.intro (HN9.out.drew.block hk4) (hS.out.2.2.drew.trans (tc4.mono (q := fun k => k = g ∨ k = gp ∨ w.heap.size ≤ k) fun k _ hk => .inr (.inl hk)))))
            clear h4 tc4 hk4
            go_wp2_with fail
            go_roundw
            case rel =>
              rw [HJ.out]
              exact ⟨j + 1, hlt, by rw [Int.natCast_add]; rfl, HN⟩
            case measure =>
              rw [HJ.out]
              show m - ((j : Int) + 1).toNat < m - ((j : Int)).toNat
              omega
        · obtain rfl : m = j := by omega
          have hend : TreeAt wr g gp id m (anewP id m now f) fw (bestP id m f).1 (bestP id m f).2 ch := by
            rw [HB.out.1, HB.out.2]
            exact hS.out.1.congr fun i hi => ⟨(if_pos hi : anewTo id m now f m i = _).symm, rfl⟩
          have HE := Lib.hid (And.intro hend (hS.out.2.2.mono (q := fun k => k = g ∨ k = gp) fun k hk h => h.elim .inl fun h => h.elim .inr fun h => by omega))
          clear hend
          go_wp2_with fail
          exact bodyPost_end (results_none rfl _ _ _) rfl ⟨rfl, HE.out⟩
end Go.Proofs.Ytadejdhdkkfliaa
